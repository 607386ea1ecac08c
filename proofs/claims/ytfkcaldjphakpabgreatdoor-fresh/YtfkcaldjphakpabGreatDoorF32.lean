/- Publish, Poll and Live, whatever they are handed. A broker that was made since. The book of what there is: without, with. The book with one more. -/
import Derived.Test.YtfkcaldjphakpabGreatDoorF31
set_option maxHeartbeats 4000000
set_option maxRecDepth 100000
namespace Go.Proofs.YtfkcaldjphakpabGreatDoor
open Go.RowKit
section
attribute [local go_sem ↓] qc3
theorem jd3 {m:Mg} {st:List Su×List Int×List Int} {p:Nat} (h:qx2 st.1):qx2 (qg6 m st p).1:=by
 unfold qg6
 split
 ·exact h
 ·rename_i x hx
  split
  ·exact h
  ·intro y hy
   rcases List.mem_or_eq_of_mem_set hy with hy|rfl
   ·exact h y hy
   ·exact h x (List.mem_of_getElem? hx)
theorem jw6 {m:Mg}:∀(pos:List Nat) (st:List Su×List Int×List Int),qx2 st.1→qx2 (pos.foldl (qg6 m) st).1:=by
 intro pos
 induction pos with
 | nil=>intro st h;exact h
 | cons p r ih=>intro st h;exact ih _ (jd3 h)
def qu8 (L:List Su) (last pri:Int) (ps:List Pr):(List Su×List Int×List Int)×Int×Int:=if 0≤pri∧pri≤9∧ve2 ps=true then (pubR ⟨pri,last+1⟩ L (jr9 ps L),last+1,0) else ((L,[],[]),last,7)
theorem vm3 {L:List Su} {last pri:Int} {ps:List Pr} (h:qx2 L):qx2 (qu8 L last pri ps).1.1:=by
 unfold qu8
 split
 ·exact jw6 _ _ h
 ·exact h
theorem jm5 (w:World) (F:Nat→Prop) (bb:Nat) (last:Int) (L:List Su) (h:Br w F bb last L) (pri:Int) (hlast:0≤last∧last<4611686018427387904) (ps:List Pr) (ev:Value)
  (hev:∀w',Grow F w w'→EvIn w' ev ps) (hg:EvGood ps)
  (Q:Ending→World→Prop) (hQ:∀w' mv fv,Br w' (pubF F w w' mv fv) bb (qu8 L last pri ps).2.1 (qu8 L last pri ps).1.1→Grow F w w'→ZsAt w' w.heap.size mv (qu8 L last pri ps).1.2.1→ZsAt w' w.heap.size fv (qu8 L last pri ps).1.2.2→Q (.returned (.tuple #[mv,fv,.int .i64 (qu8 L last pri ps).2.2])) w') :
  Calls Tryz.prog 15 #[.pointer (some ⟨bb,0,none⟩),.int .i64 pri,ev] w Q:=by
 by_cases hc:0≤pri∧pri≤9∧ve2 ps=true
 ·have e:qu8 L last pri ps=(pubR ⟨pri,last+1⟩ L (jr9 ps L),last+1,0):=by unfold qu8;rw [if_pos hc]
  rw [e] at hQ
  exact pub_ok w F bb last L h pri hc.1 hc.2.1 hlast ps ev hev hg hc.2.2 Q hQ
 ·have e:qu8 L last pri ps=((L,[],[]),last,7):=by unfold qu8;rw [if_neg hc]
  rw [e] at hQ
  refine (pub_bad w bb pri ps ev (hev w (Grow.of_below (Below.refl _ _))) hg hc).mono ?_
  rintro e w' ⟨rfl,hb⟩
  refine hQ w' _ _ ((h.up hb).wide (fun k hk=>⟨hk,by simp [Value.ownBlock],by simp [Value.ownBlock]⟩) fun k hk=>(h.up hb).1 k hk.1) (Grow.of_below hb) (ZsAt.nil _ _) (ZsAt.nil _ _)
def popS (id:Int) (y:Su):Su:=if y.id=id then { y with ms:=popM y.ms } else y
def jd2 (L:List Su) (id:Int):List Su×Int×Int:=match L.find? fun x=>x.id==id with
 | some x=>(L.map (popS id),headN x.ms,0)
 | none=>(L,0,5)
theorem set_pop {L:List Su} (hp:L.Pairwise fun a b=>a.id<b.id) {i:Nat} {x:Su} (hi:L[i]?=some x):L.set i { x with ms:=popM x.ms }=L.map (popS x.id):=by
 apply List.ext_getElem?
 intro j
 rw [List.getElem?_set,List.getElem?_map]
 obtain ⟨hil,hie⟩:=List.getElem?_eq_some_iff.1 hi
 split
 ·rename_i e
  subst e
  rw [hi]
  simp [popS]
 ·rename_i hne
  cases hj:L[j]? with
  | none=>rfl
  | some y=>
   obtain ⟨hjl,hje⟩:=List.getElem?_eq_some_iff.1 hj
   have hy:y.id≠x.id:=by
    have hpp:=List.pairwise_iff_getElem.1 hp
    rcases Nat.lt_or_gt_of_ne hne with hlt|hlt
    ·have:=hpp i j hil hjl hlt
     rw [hie,hje] at this
     omega
    ·have:=hpp j i hjl hil hlt
     rw [hie,hje] at this
     omega
   simp [popS,hy]
theorem poll_any (w:World) (F:Nat→Prop) (bb:Nat) (last:Int) (L:List Su) (h:Br w F bb last L) (id:Int)
  (Q:Ending→World→Prop) (hQ:∀w',Br w' (upF F w w') bb last (jd2 L id).1→Grow F w w'→Q (.returned (.tuple #[.int .i64 (jd2 L id).2.1,.int .i64 (jd2 L id).2.2])) w') :
  Calls Tryz.prog 22 #[.pointer (some ⟨bb,0,none⟩),.int .i64 id] w Q:=by
 obtain ⟨hp,_,_⟩:=h.rising
 cases hf:L.find? fun x=>x.id==id with
 | some x=>
  have e:jd2 L id=(L.map (popS id),headN x.ms,0):=by unfold jd2;rw [hf]
  rw [e] at hQ
  have hxi:x.id=id:=by simpa using List.find?_some hf
  obtain ⟨i,hi⟩:=List.getElem?_of_mem (List.mem_of_find?_eq_some hf)
  have:=poll_at w F bb last L h i x hi Q (fun w' h1 h2=>by rw [set_pop hp hi,hxi] at h1;exact hQ w' h1 h2)
  rw [hxi] at this
  exact this
 | none=>
  have e:jd2 L id=(L,0,5):=by unfold jd2;rw [hf]
  rw [e] at hQ
  refine (poll_no w F bb last L h id (fun x hx e=>?_)).mono (by rintro e w' ⟨rfl,hb⟩;exact hQ w' (h.up hb) (Grow.of_below hb))
  have:=List.find?_eq_none.1 hf x hx
  simp [e] at this
theorem live_any (w:World) (F:Nat→Prop) (bb:Nat) (last:Int) (L:List Su) (h:Br w F bb last L) :
  Calls Tryz.prog 16 #[.pointer (some ⟨bb,0,none⟩)] w fun e w'=>∃v,e=.returned v∧ZsAt w' w.heap.size v (L.map Su.id)∧Below w.heap.size w w':=by
 obtain ⟨hF,sv,tv,rv,l,hB,hL,hfoot⟩:=h
 obtain ⟨a,cp,hv,hx⟩:=SbRow.subs hB.row
 rw [List.length_map] at hv
 have hll:l.length=L.length:=by rw [←hL,List.length_map]
 have hl8:L.length≤8:=by rw [←hll];exact hB.n8
 obtain ⟨n,hn⟩:∃n,L.length=n:=⟨_,rfl⟩
 rw [hll,hn] at hv
 have c1:=hB.cells.2.1
 rw [hv] at c1
 have HX:Hid (∀k,k<n→∃g x core row len cap,a=some ⟨g,0,none⟩∧L[k]?=some x∧g<w.heap.size∧w.cell? ⟨g,k * 3,none⟩=some (.int .i64 x.id)∧w.cell? ⟨g,k * 3+1,none⟩=some (.pointer core)∧w.cell? ⟨g,k * 3+2,none⟩=some (.slice row len cap)):=v7 (by
  intro k hk
  obtain ⟨x,hx'⟩:∃x,L[k]?=some x:=⟨_,List.getElem?_eq_getElem (by omega)⟩
  obtain ⟨y,hy,hyx⟩:=getX hL hx'
  obtain ⟨g,ha,hg,e0,e1,e2⟩:=hx k y.sb (by rw [List.getElem?_map,hy];rfl)
  have hid:y.sb.id=x.id:=by rw [←hyx];rfl
  rw [hid] at e0
  exact ⟨g,x,_,_,_,_,ha,hx',hg,e0,e1,e2⟩)
 have HNL:=v7 hn
 rw [hn] at hl8
 clear hB hL hfoot hF hx hll hv hn
 go_enter Tryz.func16,Tryz.ntmps16
 go_wp2_with fail
 go_loopw [3,11] (fun v i wr=>∃k:Nat,k≤n∧i=.int .i64 k∧Hid (ZsAt wr w.heap.size v ((L.take k).map Su.id))∧Hid (Below w.heap.size w wr)) (fun _ i _=>n - (intOf i).toNat)
 case atStart=>exact ⟨0,Nat.zero_le _,rfl,v7 (ZsAt.nil _ _),v7 (Below.refl _ _)⟩
 case round=>
  obtain ⟨k,hk,rfl,ZA,HB⟩:=hrel
  by_cases hlt:k<n
  ·obtain ⟨g,x,core,row,len,cap,rfl,hx,hg,e0,e1,e2⟩:=q9 HX k hlt
   have hb:=q9 HB
   rw [←hb.cell (p:=⟨g,k * 3,none⟩) hg] at e0
   rw [←hb.cell (p:=⟨g,k * 3+1,none⟩) hg] at e1
   rw [←hb.cell (p:=⟨g,k * 3+2,none⟩) hg] at e2
   have hS:Hid ((L.take (k+1)).map Su.id=(L.take k).map Su.id++[x.id]):=v7 (by rw [List.take_add_one,hx];simp)
   obtain ⟨va,vc,rfl⟩:=(q9 ZA).form
   have hlen:((L.take k).map Su.id).length=k:=by rw [List.length_map,List.length_take,q9 HNL];omega
   rw [hlen]
   have hz:=hb.size
   obtain ⟨W1,hW1⟩:∃W1,W1=wr.alloc (.cells #[.int .i64 x.id,.pointer core,.slice row len cap] 83):=⟨_,rfl⟩
   have hb1:Below wr.heap.size wr W1:=by rw [hW1];exact qq1 _ _
   have hz1:W1.heap.size=wr.heap.size+1:=by rw [hW1];simp
   obtain ⟨g5,cap5,w5,r5,Z5,G5,N5⟩:=ZsAt.app (W':=W1.alloc (.cells #[.int .i64 x.id] 3)) (j3 (q9 ZA) fun j hj=>hb1.block j ((q9 ZA).lt j hj).2) (by omega) x.id (by omega) 29 (wr.heap.size+1) hz1 rfl
   rw [hlen,hW1] at r5
   rw [hlen] at Z5
   have hB5:Hid (Below w.heap.size w w5):=v7 (by
    have h1:=v8 hb hb1
    exact h1.grown (q9 G5) h1.size fun j hj=>((q9 ZA).lt j hj).1)
   have hk0:(0:Int)≤(k:Int):=by omega
   have hk1:(k:Int)<(n:Int):=by omega
   clear hW1 G5 N5 hb1 hz1 hb hx
   go_wp2_with fail
   exact ⟨⟨k+1,by omega,rfl,by rw [q9 hS];exact Z5,hB5⟩,by simp [intOf];omega⟩
  ·have hkn:k=n:=by omega
   subst hkn
   have HZ:Hid (ZsAt wr w.heap.size u3 (L.map Su.id)):=v7 (by have:=q9 ZA;rw [←q9 HNL,List.take_length] at this;exact this)
   clear ZA
   go_wp2_with fail
   go_ret
   exact ⟨_,rfl,q9 HZ,q9 HB⟩
end
section
structure HasB (w0:World) (F:Nat→Prop) (w:World) (bb:Nat) (last:Int) (L:List Su):Prop where
 br:Br w F bb last L
 good:qx2 L
 new:∀k,F k→w0.heap.size≤k
 below:Below w0.heap.size w0 w
theorem Grow.since {w0 w w':World} {F:Nat→Prop} (hg:Grow F w w') (hn:∀k,F k→w0.heap.size≤k) (hb:Below w0.heap.size w0 w):Below w0.heap.size w0 w':=by
 have:=hb.size
 exact ⟨hg.os.trans hb.os,hg.tape.trans hb.tape,hg.output.trans hb.output,Nat.le_trans hb.size hg.size,fun k hk=>(hg.block k (by omega) (fun e=>by have:=hn k e;omega)).trans (hb.block k hk)⟩
theorem HasB.op {w0:World} {F F':Nat→Prop} {w w':World} {bb:Nat} {last last':Int} {L L':List Su} (h:HasB w0 F w bb last L) (hg:Grow F w w') (hF:∀k,F' k→upF F w w' k) (hb:Br w' F' bb last' L') (hgd:qx2 L'):HasB w0 F' w' bb last' L':=by
 have:=h.below.size
 refine ⟨hb,hgd,fun k hk=>?_,hg.since h.new h.below⟩
 rcases hF k hk with e|e
 ·exact h.new k e
 ·omega
theorem HasB.keep {w0:World} {F:Nat→Prop} {w w':World} {bb:Nat} {last:Int} {L:List Su} (h:HasB w0 F w bb last L) (hb:Below w.heap.size w w'):HasB w0 F w' bb last L:=
 ⟨h.br.below hb,h.good,h.new,h.below.trans (hb.mono h.below.size)⟩
theorem HasB.event {w0:World} {F:Nat→Prop} {w:World} {bb:Nat} {last:Int} {L:List Su} (h:HasB w0 F w bb last L) {ev:Value} {ps:List Pr} (he:EvIn w0 ev ps):∀w',Grow F w w'→EvIn w' ev ps:=fun _ hg=>he.below (hg.since h.new h.below)
theorem vw1 (w:World):HasB w (fun k=>k=w.heap.size) (w.alloc (.cells #[.int .i64 0,.slice none 0 0,.slice none 0 0,.slice none 0 0] 67)) w.heap.size 0 []:=by
 refine ⟨⟨fun k hk=>by simp;omega,.slice none 0 0,.slice none 0 0,.slice none 0 0,[],⟨heap_alloc_new w _,World.ownsRow_nil _ _ _ _,⟨TsAt.nil _ _,IsAt.nil _ _,fun g hg=>by simp [Value.ownBlock] at hg⟩,fun x hx=>by simp at hx,List.Pairwise.nil,fun x hx=>by simp at hx,fun x hx=>by simp at hx,List.Pairwise.nil,Nat.zero_le _,fun x hx=>by simp at hx,⟨Nat.zero_le _,Nat.zero_le _,fun i t h=>by simp [tsX,qf5] at h,fun r hr=>by simp [rsX,qf5] at hr⟩⟩,rfl,fun k hk=>?_⟩,fun x hx=>by simp at hx,fun k hk=>by omega,qq1 _ _⟩
 rcases hk with (e|e|e|e|⟨x,hx,_⟩)|⟨x,hx,_⟩
 ·exact e
 ·simp [Value.ownBlock] at e
 ·simp [Value.ownBlock] at e
 ·simp [Value.ownBlock] at e
 ·simp at hx
 ·simp at hx
def ABr (w0 w:World) (bb:Nat) (last:Int) (L:List Su):Prop:=∃F,HasB w0 F w bb last L
theorem ABr.keep {w0 w w':World} {bb:Nat} {last:Int} {L:List Su} (h:ABr w0 w bb last L) (hb:Below w.heap.size w w'):ABr w0 w' bb last L:=by
 obtain ⟨F,h⟩:=h
 exact ⟨F,h.keep hb⟩
theorem ABr.below {w0 w:World} {bb:Nat} {last:Int} {L:List Su} (h:ABr w0 w bb last L):Below w0.heap.size w0 w:=by
 obtain ⟨F,h⟩:=h
 exact h.below
section
variable {w0 w:World} {bb:Nat} {last:Int} {L:List Su}
theorem ab_sub (h:ABr w0 w bb last L) (hL:LibOk w0) (id:Int) (s:List UInt8) (hs:s.length≤140737488355328):Calls Tryz.prog 12 #[.pointer (some ⟨bb,0,none⟩),.int .i64 id,.string (BS s)] w fun e w'=>e=.returned (.tuple #[.int .i64 (qm1 L id s).2.1,.int .i64 (qm1 L id s).2.2])∧ABr w0 w' bb last (qm1 L id s).1:=by
 obtain ⟨F,h⟩:=h
 exact jn4 w F bb last L h.br h.good id s hs (hL.below h.below (Nat.le_refl _)) _ fun w' h1 h2 h3=>⟨rfl,_,h.op h3 (fun _ hk=>hk) h1 h2⟩
end
end
section
attribute [local go_sem ↓] qc3
abbrev Lv:=Int×List UInt8
def qr8 (l:List Lv):List Value:=l.flatMap fun x=>[.int .i64 x.1,.string (BS x.2)]
theorem vq3 (l r:List Lv):qr8 (l++r)=qr8 l++qr8 r:=by simp [qr8]
theorem jj9 {l:List Lv} {i:Nat} {x:Lv} (h:l[i]?=some x):(qr8 l)[i * 2]?=some (.int .i64 x.1)∧(qr8 l)[i * 2+1]?=some (.string (BS x.2)):=by
 induction l generalizing i with
 | nil=>simp at h
 | cons a r ih=>
  have e:qr8 (a::r)=[.int .i64 a.1,.string (BS a.2)]++qr8 r:=rfl
  cases i with
  | zero=>
   simp at h
   subst h
   exact ⟨rfl,rfl⟩
  | succ i=>
   have:=ih (i:=i) (by simpa using h)
   rw [e]
   have e1:(i+1) * 2=2+i * 2:=by omega
   rw [e1]
   constructor
   ·rw [List.getElem?_append_right (by show 2≤_;omega)]
    simpa using this.1
   ·rw [List.getElem?_append_right (by show 2≤_;omega)]
    have e2:2+i * 2+1 - ([.int .i64 a.1,.string (BS a.2)]:List Value).length=i * 2+1:=by simp;omega
    rw [e2]
    exact this.2
def LvAt (w:World) (base:Nat) (v:Value) (l:List Lv):Prop:=w.ownsRow base 32 2 v l.length (qr8 l)
theorem LvAt.nil (w:World) (base:Nat):LvAt w base (.slice none 0 0) []:=World.ownsRow_nil _ _ _ _
theorem info_live:(Tryz.prog.info? 32).map (fun i=>(i.zero,i.size,i.bytes))=some (some (.agg #[.int .i64 0,.string ⟨#[]⟩]),2,24):=by kernel_rfl
theorem LvAt.app {W W':World} {base:Nat} {v:Value} {l:List Lv} (h:LvAt W base v l) (hb:base≤W.heap.size) (x:Lv) (hn:l.length≤4000000000000) (ty:TypeId) (H:Nat) (hH:W.heap.size=H) (hW:W'=W.alloc (.cells #[.int .i64 x.1,.string (BS x.2)] 32)) :
  ∃g cap w5,(qh7 #[27,27] ty #[v,.slice (some ⟨H,0,none⟩) 1 1]).run Tryz.prog W'=.ok (.slice (some ⟨g,0,none⟩) (l.length+1) cap) w5 ∧
   Hid (LvAt w5 base (.slice (some ⟨g,0,none⟩) (l.length+1) cap) (l++[x]))∧Hid (W.grownBy w5 v.ownBlock)∧Hid (v.ownBlock=some g∨W.heap.size≤g):=by
 subst hH hW
 obtain ⟨i0,hi,hz0,hz1,hz2⟩:=info_parts info_live
 have ha:=World.ownsRow.alloc h (.cells #[.int .i64 x.1,.string (BS x.2)] 32)
 obtain ⟨g,cap,w5,hr,hown,hgrow,hat,_⟩:=run_append_lies (P:=Tryz.prog) (W.alloc (.cells #[.int .i64 x.1,.string (BS x.2)] 32)) 27 ty base 32 i0 _ 2 24 Tryz.underlying27 hi hz0 hz1 hz2 rfl (by omega) v l.length (qr8 l) ha
  ⟨W.heap.size,0,none⟩ 1 1 [.int .i64 x.1,.string (BS x.2)] rfl (World.news_of_block (cs:=#[.int .i64 x.1,.string (BS x.2)]) (t:=32) (fr:=(0,0)) (heap_alloc_new W _)) (by simp [Value.oneCell']) (by omega) (by unfold maxLen;omega) (by omega) (by simp;omega) _ rfl
 have hal:=qq1 W (.cells #[.int .i64 x.1,.string (BS x.2)] 32)
 refine ⟨g,cap,w5,hr,v7 ?_,v7 ⟨hgrow.os,hgrow.tape,hgrow.output, ?_,fun k h1 h2=>?_⟩,v7 ?_⟩
 ·show World.ownsRow _ _ _ _ _ _ _
  rw [List.length_append,List.length_singleton,vq3]
  exact hown
 ·have:=hgrow.size
  simp at this
  omega
 ·rw [hgrow.block k (by simp;omega) h2,hal.block k h1]
 ·rcases hat with e|e
  ·exact .inl e
  ·right;simp at e;omega
theorem LvAt.cell {w:World} {base:Nat} {v:Value} {l:List Lv} (h:LvAt w base v l) {i:Nat} {x:Lv} (hi:l[i]?=some x):∃g c,v=.slice (some ⟨g,0,none⟩) l.length c∧g<w.heap.size∧w.cell? ⟨g,i * 2,none⟩=some (.int .i64 x.1)∧w.cell? ⟨g,i * 2+1,none⟩=some (.string (BS x.2)):=by
 rcases qc8 h with ⟨_,h0⟩|⟨g,c,rfl⟩
 ·have:=(List.getElem?_eq_some_iff.1 hi).1
  omega
 ·obtain ⟨h1,h2⟩:=jj9 hi
  have c1:=World.ownsRow.cells h (g:=g) rfl _ _ h1
  have c2:=World.ownsRow.cells h (g:=g) rfl _ _ h2
  rw [qj2,Nat.zero_add] at c1 c2
  exact ⟨g,c,rfl,(h.lt g rfl).2,c1,c2⟩
def vq5 (l:List Lv) (id:Int):List Lv:=l.filter fun x=>!(x.1==id)
theorem jp5 (l:List Lv) (hn:l.length≤3000000000000) (v:Value) (base:Nat) (id:Int) (w:World) (h:LvAt w base v l) :
  Calls Tryz.prog 28 #[v,.int .i64 id] w fun e w'=>∃v',e=.returned v'∧LvAt w' w.heap.size v' (vq5 l id)∧Below w.heap.size w w':=by
 have HC:Hid (∀k x,l[k]?=some x→∃g c,v=.slice (some ⟨g,0,none⟩) l.length c∧g<w.heap.size∧w.cell? ⟨g,k * 2,none⟩=some (.int .i64 x.1)∧w.cell? ⟨g,k * 2+1,none⟩=some (.string (BS x.2))):=v7 fun k x hk=>h.cell hk
 obtain ⟨a,c,rfl⟩:=qc1 h
 obtain ⟨n,hnl⟩:∃n,l.length=n:=⟨_,rfl⟩
 rw [hnl] at HC hn ⊢
 have HN:=v7 hnl
 clear h hnl
 go_enter Tryz.func28,Tryz.ntmps28
 go_wp2_with fail
 go_loopw [5,6] (fun o i wr=>∃k:Nat,k≤n∧i=.int .i64 k∧Hid (LvAt wr w.heap.size o (vq5 (l.take k) id))∧Hid (Below w.heap.size w wr)) (fun _ i _=>n - (intOf i).toNat)
 case atStart=>exact ⟨0,Nat.zero_le _,rfl,v7 (LvAt.nil _ _),v7 (Below.refl _ _)⟩
 case round=>
  obtain ⟨k,hk,rfl,LA,HB⟩:=hrel
  by_cases hlt:k<n
  ·obtain ⟨x,hx⟩:∃x,l[k]?=some x:=⟨_,List.getElem?_eq_getElem (by have:=q9 HN;omega)⟩
   obtain ⟨g,c',hv,hg,e0,e1⟩:=q9 HC k x hx
   simp at hv
   obtain ⟨rfl,rfl⟩:=hv
   have hb:=q9 HB
   rw [←hb.cell (p:=⟨g,k * 2,none⟩) hg] at e0
   rw [←hb.cell (p:=⟨g,k * 2+1,none⟩) hg] at e1
   have hS:Hid (vq5 (l.take (k+1)) id=vq5 (l.take k) id++(if x.1=id then [] else [x])):=v7 (by
    unfold vq5
    rw [List.take_add_one,hx,List.filter_append]
    congr 1
    by_cases e:x.1=id
    ·rw [if_pos e];simp [e]
    ·rw [if_neg e];simp [e])
   obtain ⟨oa,oc,rfl⟩:=qc1 (q9 LA)
   obtain ⟨m,hm⟩:∃m,(vq5 (l.take k) id).length=m:=⟨_,rfl⟩
   have hml:m≤k:=by
    rw [←hm]
    unfold vq5
    refine Nat.le_trans (List.length_filter_le _ _) ?_
    rw [List.length_take]
    omega
   rw [hm]
   have hz:=hb.size
   have hk0:(0:Int)≤(k:Int):=by omega
   have hk1:(k:Int)<(n:Int):=by omega
   by_cases hid:x.1=id
   ·rw [if_pos hid,List.append_nil] at hS
    have hd:(x.1 != id)=false:=by simpa using hid
    have HL:Hid (LvAt wr w.heap.size (.slice oa m oc) (vq5 (l.take (k+1)) id)):=v7 (by rw [q9 hS,←hm];exact q9 LA)
    clear LA hid
    go_wp2_with fail
    exact ⟨⟨k+1,by omega,rfl,HL,HB⟩,by simp [intOf];omega⟩
   ·rw [if_neg hid] at hS
    have hd:(x.1 != id)=true:=by simpa using hid
    obtain ⟨g5,cap5,w5,r5,Z5,G5,N5⟩:=LvAt.app (q9 LA) hz x (by rw [hm];omega) 27 wr.heap.size rfl rfl
    rw [hm] at r5
    have HL:Hid (LvAt w5 w.heap.size (.slice (some ⟨g5,0,none⟩) (m+1) cap5) (vq5 (l.take (k+1)) id)):=v7 (by rw [q9 hS,←hm];exact q9 Z5)
    have HB5:Hid (Below w.heap.size w w5):=v7 (hb.grown (q9 G5) hb.size fun j hj=>((q9 LA).lt j hj).1)
    clear G5 N5 Z5 LA hid
    go_wp2_with fail
    exact ⟨⟨k+1,by omega,rfl,HL,HB5⟩,by simp [intOf];omega⟩
  ·have hkn:k=n:=by omega
   subst hkn
   have HZ:Hid (LvAt wr w.heap.size u5 (vq5 l id)):=v7 (by have:=q9 LA;rw [←q9 HN,List.take_length] at this;exact this)
   clear LA
   go_wp2_with fail
   go_ret
   exact ⟨_,rfl,q9 HZ,q9 HB⟩
end
section
attribute [local go_sem ↓] qc3
def qf3 (l:List Lv) (x:Lv):Nat→List Lv×Bool
 | 0=>([],false)
 | k+1=>match l[k]? with
  | none=>qf3 l x k
  | some y=>if (qf3 l x k).2=false∧x.1<y.1 then ((qf3 l x k).1++[x]++[y],true) else ((qf3 l x k).1++[y],(qf3 l x k).2)
def qu7 (l:List Lv) (x:Lv):List Lv:=if (qf3 l x l.length).2 then (qf3 l x l.length).1 else (qf3 l x l.length).1++[x]
theorem jf6 (l:List Lv) (x:Lv) (k:Nat):(qf3 l x k).1.length≤k+(if (qf3 l x k).2 then 1 else 0):=by
 induction k with
 | zero=>simp [qf3]
 | succ k ih=>
  rw [qf3]
  cases l[k]? with
  | none=>simp only;omega
  | some y=>
   simp only
   split
   ·rename_i h
    rw [h.1] at ih
    simp at ih ⊢
    omega
   ·simp only [List.length_append,List.length_singleton]
    omega
theorem with_any (l:List Lv) (hn:l.length≤3000000000000) (v:Value) (base:Nat) (x:Lv) (w:World) (h:LvAt w base v l) :
  Calls Tryz.prog 29 #[v,.agg #[.int .i64 x.1,.string (BS x.2)]] w fun e w'=>∃v',e=.returned v'∧LvAt w' w.heap.size v' (qu7 l x)∧Below w.heap.size w w':=by
 have HC:Hid (∀k y,l[k]?=some y→∃g c,v=.slice (some ⟨g,0,none⟩) l.length c∧g<w.heap.size∧w.cell? ⟨g,k * 2,none⟩=some (.int .i64 y.1)∧w.cell? ⟨g,k * 2+1,none⟩=some (.string (BS y.2))):=v7 fun k y hk=>h.cell hk
 obtain ⟨a,c,rfl⟩:=qc1 h
 obtain ⟨n,hnl⟩:∃n,l.length=n:=⟨_,rfl⟩
 have HW:Hid (qu7 l x=if (qf3 l x n).2 then (qf3 l x n).1 else (qf3 l x n).1++[x]):=v7 (by unfold qu7;rw [hnl])
 rw [hnl] at HC hn ⊢
 have HN:=v7 hnl
 clear h hnl
 obtain ⟨W1,hW1⟩:∃W1,W1=w.alloc (.cells #[.int .i64 x.1,.string (BS x.2)] 32):=⟨_,rfl⟩
 have HB1:Hid (Below w.heap.size w W1):=v7 (by rw [hW1];exact qq1 _ _)
 have hz1:W1.heap.size=w.heap.size+1:=by rw [hW1];simp
 have HX:Hid (W1.cell? ⟨w.heap.size,0,none⟩=some (.int .i64 x.1)∧W1.cell? ⟨w.heap.size,1,none⟩=some (.string (BS x.2))):=v7 (by rw [hW1];simp [go_sem])
 go_enter Tryz.func29,Tryz.ntmps29
 go_wp2_with fail
 rw [←hW1]
 clear hW1
 go_loopw [5,6,7] (fun o d i wr=>∃k:Nat,k≤n∧i=.int .i64 k∧d=.bool (qf3 l x k).2∧Hid (LvAt wr W1.heap.size o (qf3 l x k).1)∧Hid (Below W1.heap.size W1 wr)) (fun _ _ i _=>n - (intOf i).toNat)
 case atStart=>exact ⟨0,Nat.zero_le _,rfl,rfl,v7 (LvAt.nil _ _),v7 (Below.refl _ _)⟩
 case round=>
  obtain ⟨k,hk,rfl,rfl,LA,HB⟩:=hrel
  have hb:=q9 HB
  have hz:=hb.size
  obtain ⟨x0,x1⟩:=q9 HX
  rw [←hb.cell (p:=⟨w.heap.size,0,none⟩) (by show w.heap.size<_;omega)] at x0
  rw [←hb.cell (p:=⟨w.heap.size,1,none⟩) (by show w.heap.size<_;omega)] at x1
  have hwl:=jf6 l x k
  have hm0:(qf3 l x k).1.length≤k+1:=by split at hwl<;>omega
  obtain ⟨oa,oc,rfl⟩:=qc1 (q9 LA)
  obtain ⟨m,hm⟩:∃m,(qf3 l x k).1.length=m:=⟨_,rfl⟩
  rw [hm]
  rw [hm] at hm0
  clear hwl
  by_cases hlt:k<n
  ·obtain ⟨y,hy⟩:∃y,l[k]?=some y:=⟨_,List.getElem?_eq_getElem (by have:=q9 HN;omega)⟩
   obtain ⟨g,c',hv,hg,e0,e1⟩:=q9 HC k y hy
   simp at hv
   obtain ⟨rfl,rfl⟩:=hv
   have hbw:=v8 (q9 HB1) hb
   rw [←hbw.cell (p:=⟨g,k * 2,none⟩) hg] at e0
   rw [←hbw.cell (p:=⟨g,k * 2+1,none⟩) hg] at e1
   have hk0:(0:Int)≤(k:Int):=by omega
   have hk1:(k:Int)<(n:Int):=by omega
   have LD:Hid (LvAt wr.drew W1.heap.size (.slice oa (qf3 l x k).1.length oc) (qf3 l x k).1):=v7 (j3 (q9 LA) fun _ _=>rfl)
   have hzd:wr.drew.heap.size=wr.heap.size:=rfl
   have hbd:Below W1.heap.size W1 wr.drew:=hb.drew
   cases hd:(qf3 l x k).2 with
   | true=>
    have hS:Hid (qf3 l x (k+1)=((qf3 l x k).1++[y],true)):=v7 (by rw [qf3,hy];simp only;rw [if_neg (by rw [hd];simp),hd])
    obtain ⟨g5,cap5,w5,r5,Z5,G5,N5⟩:=LvAt.app (W':=(wr.alloc (.cells #[.int .i64 y.1,.string (BS y.2)] 32)).drew) (q9 LD) hz y (by rw [hm];omega) 27 wr.heap.size rfl rfl
    rw [hm] at r5
    have HR:Hid (∃k',k'≤n∧(Value.int .i64 ((k:Int)+1))=.int .i64 (k':Nat)∧(Value.bool true)=.bool (qf3 l x k').2∧Hid (LvAt w5 W1.heap.size (.slice (some ⟨g5,0,none⟩) (m+1) cap5) (qf3 l x k').1)∧Hid (Below W1.heap.size W1 w5)):=v7 ⟨k+1,by omega,rfl,by rw [q9 hS],v7 (by rw [q9 hS,←hm];exact q9 Z5),v7 (hbd.grown (q9 G5) hbd.size fun j hj=>((q9 LD).lt j hj).1)⟩
    clear G5 N5 Z5 LA LD hd hS hbw hb hbd hy
    go_wp2_with fail
    go_region
    all_goals go_wp2_with fail
    all_goals exact ⟨q9 HR,by simp [intOf];omega⟩
   | false=>
    by_cases hxy:x.1<y.1
    ·have hdx:decide (x.1<y.1)=true:=decide_eq_true hxy
     have hS:Hid (qf3 l x (k+1)=((qf3 l x k).1++[x]++[y],true)):=v7 (by rw [qf3,hy];simp only;rw [if_pos ⟨hd,hxy⟩])
     obtain ⟨g5,cap5,w5,r5,Z5,G5,N5⟩:=LvAt.app (W':=(wr.alloc (.cells #[.int .i64 x.1,.string (BS x.2)] 32)).drew) (q9 LD) hz x (by rw [hm];omega) 27 wr.heap.size rfl rfl
     have hB5:Below W1.heap.size W1 w5:=hbd.grown (q9 G5) hbd.size fun j hj=>((q9 LD).lt j hj).1
     have hz5:=hB5.size
     obtain ⟨g6,cap6,w6,r6,Z6,G6,N6⟩:=LvAt.app (W':=w5.alloc (.cells #[.int .i64 y.1,.string (BS y.2)] 32)) (l:=(qf3 l x k).1++[x]) (v:=.slice (some ⟨g5,0,none⟩) (m+1) cap5) (by rw [←hm];exact q9 Z5) hz5 y (by rw [List.length_append,List.length_singleton,hm];omega) 27 w5.heap.size rfl rfl
     have hl2:((qf3 l x k).1++[x]).length=m+1:=by rw [List.length_append,List.length_singleton,hm]
     rw [hm] at r5
     rw [hl2] at r6 Z6
     have hbw5:=v8 (q9 HB1) hB5
     have y0:w5.cell? ⟨g,k * 2,none⟩=some (.int .i64 y.1):=by rw [hbw5.cell (p:=⟨g,k * 2,none⟩) hg,←hbw.cell (p:=⟨g,k * 2,none⟩) hg];exact e0
     have y1:w5.cell? ⟨g,k * 2+1,none⟩=some (.string (BS y.2)):=by rw [hbw5.cell (p:=⟨g,k * 2+1,none⟩) hg,←hbw.cell (p:=⟨g,k * 2+1,none⟩) hg];exact e1
     have HR:Hid (∃k',k'≤n∧(Value.int .i64 ((k:Int)+1))=.int .i64 (k':Nat)∧(Value.bool true)=.bool (qf3 l x k').2∧Hid (LvAt w6 W1.heap.size (.slice (some ⟨g6,0,none⟩) (m+1+1) cap6) (qf3 l x k').1)∧Hid (Below W1.heap.size W1 w6)):=v7 ⟨k+1,by omega,rfl,by rw [q9 hS],v7 (by rw [q9 hS];exact q9 Z6),v7 (hB5.grown (q9 G6) hB5.size fun j hj=>by
      have e:g5=j:=by simpa [Value.ownBlock] using hj
      have:=((q9 Z5).lt g5 rfl).1
      omega)⟩
     clear G5 N5 Z5 G6 N6 Z6 LA LD hd hS hbw hb hbd hy hB5 hbw5 hl2
     go_wp2_with fail
     go_region
     all_goals go_wp2_with fail
     all_goals exact ⟨q9 HR,by simp [intOf];omega⟩
    ·have hdx:decide (x.1<y.1)=false:=decide_eq_false hxy
     have hS:Hid (qf3 l x (k+1)=((qf3 l x k).1++[y],false)):=v7 (by rw [qf3,hy];simp only;rw [if_neg (fun h=>hxy h.2),hd])
     obtain ⟨g5,cap5,w5,r5,Z5,G5,N5⟩:=LvAt.app (W':=(wr.alloc (.cells #[.int .i64 y.1,.string (BS y.2)] 32)).drew) (q9 LD) hz y (by rw [hm];omega) 27 wr.heap.size rfl rfl
     rw [hm] at r5
     have HR:Hid (∃k',k'≤n∧(Value.int .i64 ((k:Int)+1))=.int .i64 (k':Nat)∧(Value.bool false)=.bool (qf3 l x k').2∧Hid (LvAt w5 W1.heap.size (.slice (some ⟨g5,0,none⟩) (m+1) cap5) (qf3 l x k').1)∧Hid (Below W1.heap.size W1 w5)):=v7 ⟨k+1,by omega,rfl,by rw [q9 hS],v7 (by rw [q9 hS,←hm];exact q9 Z5),v7 (hbd.grown (q9 G5) hbd.size fun j hj=>((q9 LD).lt j hj).1)⟩
     clear G5 N5 Z5 LA LD hd hS hbw hb hbd hy
     go_wp2_with fail
     go_region
     all_goals go_wp2_with fail
     all_goals exact ⟨q9 HR,by simp [intOf];omega⟩
  ·have hkn:k=n:=by omega
   subst hkn
   have hbw:=v8 (q9 HB1) hb
   cases hd:(qf3 l x k).2 with
   | true=>
    have HZ:Hid (LvAt wr w.heap.size (.slice oa m oc) (qu7 l x)):=v7 (by rw [q9 HW,hd,if_pos rfl,←hm];exact qa3 (q9 LA) (by omega))
    have HBw:=v7 hbw
    clear LA hd hb hbw
    go_wp2_with fail
    go_ret
    exact ⟨_,rfl,q9 HZ,q9 HBw⟩
   | false=>
    obtain ⟨g5,cap5,w5,r5,Z5,G5,N5⟩:=LvAt.app (q9 LA) hz x (by rw [hm];omega) 27 wr.heap.size rfl rfl
    rw [hm] at r5
    have HZ:Hid (LvAt w5 w.heap.size (.slice (some ⟨g5,0,none⟩) (m+1) cap5) (qu7 l x)):=v7 (by rw [q9 HW,hd,if_neg (by simp),←hm];exact qa3 (q9 Z5) (by omega))
    have HBw:Hid (Below w.heap.size w w5):=v7 (hbw.grown (q9 G5) hbw.size fun j hj=>by have:=((q9 LA).lt j hj).1;omega)
    clear G5 N5 Z5 LA hd hb hbw
    go_wp2_with fail
    go_ret
    exact ⟨_,rfl,q9 HZ,q9 HBw⟩
end
end Go.Proofs.YtfkcaldjphakpabGreatDoor
