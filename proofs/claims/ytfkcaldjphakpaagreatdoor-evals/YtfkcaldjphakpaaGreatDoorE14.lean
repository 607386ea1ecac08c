/- The document's answer: sum. The document's answer: denied. The document's answer: a node that is being made, in a variable; NULL. -/
import Derived.Test.YtfkcaldjphakpaaGreatDoorE13
import Derived.Test.YtfkcaldjphakpaaGreatDoorE06
namespace Go.Proofs.YtfkcaldjphakpaaGreatDoor
open Go.RowKit
section
set_option maxHeartbeats 4000000 in
set_option maxRecDepth 100000 in
theorem jg1 (rb:Nat) (s:ByteArray) (hs:s.size≤200) (op m:Nat) (hm:200≤m) (hm':m≤900) (f:St→Res) (hf:RReads 342 rb s op m f):RReads 320 rb s op (m+1) (qe2 s f [22,23]):=by
 intro w st ns j h ho
 have HF:=v7 hf
 have HC:=v7 (hf w st ns j h ho)
 obtain ⟨R,hR⟩:∃r,qe2 s f [22,23] st=r:=⟨_,rfl⟩
 rw [hR]
 have HR:=v7 hR
 clear hf h hR
 go_enter Tryz.func320,Tryz.ntmps320
 go_wp2_with (go_at_call 342;refine (q9 HC).mono ?_;rintro e w1 h1;have H1:Hid (∃v,e=.returned v∧RowAt rb s w op (m+1) ns j st.place R f [22,23] v w1):=v7 (by
   obtain ⟨hk1,h1⟩:=h1
   rw [←q9 HR]
   cases hres:f st with
   | ok l0 st0=>rw [hres] at h1;obtain ⟨new,rfl,hr1,ho1,hp1,hfl⟩:=h1;exact ⟨_,rfl,hk1,.inl ⟨s.size+1,l0,st0,new,qm4 hres,by omega,rfl,hr1,ho1,hp1,hfl⟩⟩
   | err en pl=>rw [hres] at h1;obtain ⟨i,rfl,hr1⟩:=h1;exact ⟨_,rfl,hk1,.inr ⟨en,pl,i,qj4 hres,rfl,hr1.more (by omega)⟩⟩);clear h1;obtain ⟨v1,rfl,h1⟩:=q9 H1;have HA1:=v7 h1;clear H1 h1)
 go_loopw [3] (fun v wr=>Hid (RowAt rb s w op (m+1) ns j st.place R f [22,23] v wr)) (fun v wr=>meT s wr rb)
 case atStart=>exact HA1
 case round=>
  obtain ⟨hk,hc⟩:=q9 hrel
  rcases hc with ⟨n,l,sl,new,hRl,hn,rfl,hrl,hol,hpl,hfl⟩|⟨en,pl,i,hRl,rfl,hre⟩
  ·have hfine:=hrl.fine
   have hfp:=hfine.place
   have hltr:=hrl.lt
   obtain ⟨c2,c3,c4,c5,c6⟩:=hrl.ct
   have c8:=hrl.c8
   have hmu:=qu7 hrl
   obtain ⟨mm,rfl⟩:∃mm,n=mm+1:=⟨n - 1,by omega⟩
   have HRl:=v7 hrl
   have HK:=v7 hk
   have HFL:=v7 hfl
   have HMU:=v7 hmu
   clear hrl hk hfl hmu hrel HA1
   by_cases hk22:sl.tk.kind=22
   ·have hi22:(rK sl.tk.kind==5&&((BS (tkS sl)).toList==(⟨#[43]⟩:ByteArray).toList))=true:=(isK (c:=22) rfl (by decide) (by decide) 5 rfl).trans (by rw [hk22];rfl)
    have hcon:([22,23]:List Int).contains sl.tk.kind=true:=by rw [hk22];rfl
    have hpp:=hfine.step_place (by omega)
    rw [show rK sl.tk.kind=5 by rw [hk22];rfl] at c2
    rw [show tkZ sl=(sl.after:Int) by unfold tkZ;rw [if_neg (by omega)]] at c4
    rw [show BS (tkS sl)=⟨#[43]⟩ by rw [vs2 (by omega),hk22];rfl] at c5
    have hfr:=(q9 HRl).fresh (.cells #[.int .i64 5,.int .i64 sl.place,.int .i64 sl.after,.string ⟨#[43]⟩,.int .i64 (tkN sl)] 235)
    have h':=(q9 HRl).alloc (.cells #[.int .i64 5,.int .i64 sl.place,.int .i64 sl.after,.string ⟨#[43]⟩,.int .i64 (tkN sl)] 235)
    have n0:¬wr.heap.size=rb:=by omega
    have n1:¬rb=wr.heap.size:=by omega
    have FR:=v7 hfr
    have H':=v7 h'
    clear hfr h'
    cases hres:f (v6 s sl) with
    | ok r st2=>
     have HRR:Hid (R=qa7 s f [22,23] mm (vm6 sl l r) st2):=v7 (by rw [hRl,qf1 hcon (qf8 hres)])
     have HRES:=v7 hres
     clear hcon hRl hres
     go_wp2_with (first|(go_at_call 215;refine (qg2 (q9 HRl)).mono ?_;rintro e w' ⟨rfl,hw'⟩;subst w';simp only [hi22])|(go_at_call 172;refine (j7 (q9 H') hs (by omega) (by omega)).mono ?_;rintro e w2 ⟨rfl,hk2,hr2⟩;obtain ⟨hc,hf,_,hno,hL⟩:=hk2.mine (by simp) (q9 FR);have p1:w2.cell? ⟨wr.heap.size,1,none⟩=some (.int .i64 sl.place):=(hc 1).trans (by simp);have p3:w2.cell? ⟨wr.heap.size,3,none⟩=some (.string ⟨#[43]⟩):=(hc 3).trans (by simp);have HO2:=v7 hno;have HK2:=v7 (qf0 hltr hk2);have HR2:=v7 hr2;clear hk2 hr2 hc hf hno)|(go_at_call 342;refine (q9 HF _ (v6 s sl) (ns++new) (j+1) (q9 HR2) hol).mono ?_;rintro e w3 ⟨hk3,h3⟩;rw [q9 HRES] at h3;obtain ⟨new3,rfl,hr3,ho3,hp3,hfl3⟩:=h3;have HFL3:=v7 hfl3;clear hfl3;obtain ⟨hc,hf,_,hno,hL2⟩:=hk3.mine hL (q9 HO2);have q1:w3.cell? ⟨wr.heap.size,1,none⟩=some (.int .i64 sl.place):=(hc 1).trans p1;have q3:w3.cell? ⟨wr.heap.size,3,none⟩=some (.string ⟨#[43]⟩):=(hc 3).trans p3;have HK3:=v7 hk3;have HR3:=v7 hr3;clear hk3 hr3 hc hf hno)|(go_at_call 216;refine (qr9 (q9 HR3) hs ⟨qu8 sl.tk.kind,sl.place,0,[],[],[]⟩ (ns.length+new.length - 1) (ns.length+new.length+new3.length - 1) (by rw [hk22];rfl) rfl rfl rfl (by simp)).mono ?_;rintro e w4 ⟨rfl,hk4,hr4⟩;have hf4:=hr4.fine.place;have HMU4:=v7 (qu7 hr4);have HK4:=v7 hk4;have HR4:=v7 hr4;clear hk4 hr4))
     go_roundw
     case rel=>
      refine v7 ⟨(((q9 HK).trans (q9 HK2)).trans (q9 HK3)).trans (q9 HK4),.inl ⟨mm,_,st2,new++new3++[qi3 ⟨qu8 sl.tk.kind,sl.place,0,[],[],[]⟩ [ns.length+new.length - 1,ns.length+new.length+new3.length - 1] false],q9 HRR,by omega,ve9 (by simp;omega), ?_,ho3,by omega,Flat.bin _ (q9 HFL) (by have:=q9 HFL3;rwa [List.length_append] at this)⟩⟩
      have:=q9 HR4
      simpa only [List.append_assoc] using this
     case measure=>rw [q9 HMU,q9 HMU4];omega
    | err en pl=>
     have HRR:Hid (R=.err en pl):=v7 (by rw [hRl,qg5 hcon (qe5 hres)])
     have HRES:=v7 hres
     clear hcon hRl hres
     go_wp2_with (first|(go_at_call 215;refine (qg2 (q9 HRl)).mono ?_;rintro e w' ⟨rfl,hw'⟩;subst w';simp only [hi22])|(go_at_call 172;refine (j7 (q9 H') hs (by omega) (by omega)).mono ?_;rintro e w2 ⟨rfl,hk2,hr2⟩;obtain ⟨hc,hf,_,hno,hL⟩:=hk2.mine (by simp) (q9 FR);have p1:w2.cell? ⟨wr.heap.size,1,none⟩=some (.int .i64 sl.place):=(hc 1).trans (by simp);have p3:w2.cell? ⟨wr.heap.size,3,none⟩=some (.string ⟨#[43]⟩):=(hc 3).trans (by simp);have HO2:=v7 hno;have HK2:=v7 (qf0 hltr hk2);have HR2:=v7 hr2;clear hk2 hr2 hc hf hno)|(go_at_call 342;refine (q9 HF _ (v6 s sl) (ns++new) (j+1) (q9 HR2) hol).mono ?_;rintro e w3 ⟨hk3,h3⟩;rw [q9 HRES] at h3;obtain ⟨i3,rfl,hr3⟩:=h3;obtain ⟨hc,hf,_,hno,hL2⟩:=hk3.mine hL (q9 HO2);have q1:w3.cell? ⟨wr.heap.size,1,none⟩=some (.int .i64 sl.place):=(hc 1).trans p1;have q3:w3.cell? ⟨wr.heap.size,3,none⟩=some (.string ⟨#[43]⟩):=(hc 3).trans p3;have HK3:=v7 hk3;have HR3:=v7 hr3;clear hk3 hr3 hc hf hno)|(go_at_call 216;refine (qn6 (q9 HR3) (by omega) [43] sl.place (ns.length+new.length - 1) i3 rfl (by simp)).mono ?_;rintro e w4 ⟨i4,rfl,hk4,hr4⟩;have HMU4:=v7 (vp5 hr4);have HK4:=v7 hk4;have HR4:=v7 hr4;clear hk4 hr4))
     go_roundw
     case rel=>exact v7 ⟨(((q9 HK).trans (q9 HK2)).trans (q9 HK3)).trans (q9 HK4),.inr ⟨en,pl,i4,q9 HRR,rfl,q9 HR4⟩⟩
     case measure=>rw [q9 HMU,q9 HMU4];omega
   ·have nq22:¬sl.tk.kind=22:=hk22
    have hi22:(rK sl.tk.kind==5&&((BS (tkS sl)).toList==(⟨#[43]⟩:ByteArray).toList))=false:=(isK (c:=22) rfl (by decide) (by decide) 5 rfl).trans (beq_eq_false_iff_ne.2 hk22)
    by_cases hk23:sl.tk.kind=23
    ·have hi23:(rK sl.tk.kind==5&&((BS (tkS sl)).toList==(⟨#[45]⟩:ByteArray).toList))=true:=(isK (c:=23) rfl (by decide) (by decide) 5 rfl).trans (by rw [hk23];rfl)
     have hcon:([22,23]:List Int).contains sl.tk.kind=true:=by rw [hk23];rfl
     have hpp:=hfine.step_place (by omega)
     rw [show rK sl.tk.kind=5 by rw [hk23];rfl] at c2
     rw [show tkZ sl=(sl.after:Int) by unfold tkZ;rw [if_neg (by omega)]] at c4
     rw [show BS (tkS sl)=⟨#[45]⟩ by rw [vs2 (by omega),hk23];rfl] at c5
     have hfr:=(q9 HRl).fresh (.cells #[.int .i64 5,.int .i64 sl.place,.int .i64 sl.after,.string ⟨#[45]⟩,.int .i64 (tkN sl)] 235)
     have h':=(q9 HRl).alloc (.cells #[.int .i64 5,.int .i64 sl.place,.int .i64 sl.after,.string ⟨#[45]⟩,.int .i64 (tkN sl)] 235)
     have n0:¬wr.heap.size=rb:=by omega
     have n1:¬rb=wr.heap.size:=by omega
     have FR:=v7 hfr
     have H':=v7 h'
     clear hfr h'
     cases hres:f (v6 s sl) with
     | ok r st2=>
      have HRR:Hid (R=qa7 s f [22,23] mm (vm6 sl l r) st2):=v7 (by rw [hRl,qf1 hcon (qf8 hres)])
      have HRES:=v7 hres
      clear hcon hRl hres
      go_wp2_with (first|(go_at_call 215;refine (qg2 (q9 HRl)).mono ?_;rintro e w' ⟨rfl,hw'⟩;subst w';simp only [hi22,hi23])|(go_at_call 172;refine (j7 (q9 H') hs (by omega) (by omega)).mono ?_;rintro e w2 ⟨rfl,hk2,hr2⟩;obtain ⟨hc,hf,_,hno,hL⟩:=hk2.mine (by simp) (q9 FR);have p1:w2.cell? ⟨wr.heap.size,1,none⟩=some (.int .i64 sl.place):=(hc 1).trans (by simp);have p3:w2.cell? ⟨wr.heap.size,3,none⟩=some (.string ⟨#[45]⟩):=(hc 3).trans (by simp);have HO2:=v7 hno;have HK2:=v7 (qf0 hltr hk2);have HR2:=v7 hr2;clear hk2 hr2 hc hf hno)|(go_at_call 342;refine (q9 HF _ (v6 s sl) (ns++new) (j+1) (q9 HR2) hol).mono ?_;rintro e w3 ⟨hk3,h3⟩;rw [q9 HRES] at h3;obtain ⟨new3,rfl,hr3,ho3,hp3,hfl3⟩:=h3;have HFL3:=v7 hfl3;clear hfl3;obtain ⟨hc,hf,_,hno,hL2⟩:=hk3.mine hL (q9 HO2);have q1:w3.cell? ⟨wr.heap.size,1,none⟩=some (.int .i64 sl.place):=(hc 1).trans p1;have q3:w3.cell? ⟨wr.heap.size,3,none⟩=some (.string ⟨#[45]⟩):=(hc 3).trans p3;have HK3:=v7 hk3;have HR3:=v7 hr3;clear hk3 hr3 hc hf hno)|(go_at_call 216;refine (qr9 (q9 HR3) hs ⟨qu8 sl.tk.kind,sl.place,0,[],[],[]⟩ (ns.length+new.length - 1) (ns.length+new.length+new3.length - 1) (by rw [hk23];rfl) rfl rfl rfl (by simp)).mono ?_;rintro e w4 ⟨rfl,hk4,hr4⟩;have hf4:=hr4.fine.place;have HMU4:=v7 (qu7 hr4);have HK4:=v7 hk4;have HR4:=v7 hr4;clear hk4 hr4))
      go_roundw
      case rel=>
       refine v7 ⟨(((q9 HK).trans (q9 HK2)).trans (q9 HK3)).trans (q9 HK4),.inl ⟨mm,_,st2,new++new3++[qi3 ⟨qu8 sl.tk.kind,sl.place,0,[],[],[]⟩ [ns.length+new.length - 1,ns.length+new.length+new3.length - 1] false],q9 HRR,by omega,ve9 (by simp;omega), ?_,ho3,by omega,Flat.bin _ (q9 HFL) (by have:=q9 HFL3;rwa [List.length_append] at this)⟩⟩
       have:=q9 HR4
       simpa only [List.append_assoc] using this
      case measure=>rw [q9 HMU,q9 HMU4];omega
     | err en pl=>
      have HRR:Hid (R=.err en pl):=v7 (by rw [hRl,qg5 hcon (qe5 hres)])
      have HRES:=v7 hres
      clear hcon hRl hres
      go_wp2_with (first|(go_at_call 215;refine (qg2 (q9 HRl)).mono ?_;rintro e w' ⟨rfl,hw'⟩;subst w';simp only [hi22,hi23])|(go_at_call 172;refine (j7 (q9 H') hs (by omega) (by omega)).mono ?_;rintro e w2 ⟨rfl,hk2,hr2⟩;obtain ⟨hc,hf,_,hno,hL⟩:=hk2.mine (by simp) (q9 FR);have p1:w2.cell? ⟨wr.heap.size,1,none⟩=some (.int .i64 sl.place):=(hc 1).trans (by simp);have p3:w2.cell? ⟨wr.heap.size,3,none⟩=some (.string ⟨#[45]⟩):=(hc 3).trans (by simp);have HO2:=v7 hno;have HK2:=v7 (qf0 hltr hk2);have HR2:=v7 hr2;clear hk2 hr2 hc hf hno)|(go_at_call 342;refine (q9 HF _ (v6 s sl) (ns++new) (j+1) (q9 HR2) hol).mono ?_;rintro e w3 ⟨hk3,h3⟩;rw [q9 HRES] at h3;obtain ⟨i3,rfl,hr3⟩:=h3;obtain ⟨hc,hf,_,hno,hL2⟩:=hk3.mine hL (q9 HO2);have q1:w3.cell? ⟨wr.heap.size,1,none⟩=some (.int .i64 sl.place):=(hc 1).trans p1;have q3:w3.cell? ⟨wr.heap.size,3,none⟩=some (.string ⟨#[45]⟩):=(hc 3).trans p3;have HK3:=v7 hk3;have HR3:=v7 hr3;clear hk3 hr3 hc hf hno)|(go_at_call 216;refine (qn6 (q9 HR3) (by omega) [45] sl.place (ns.length+new.length - 1) i3 rfl (by simp)).mono ?_;rintro e w4 ⟨i4,rfl,hk4,hr4⟩;have HMU4:=v7 (vp5 hr4);have HK4:=v7 hk4;have HR4:=v7 hr4;clear hk4 hr4))
      go_roundw
      case rel=>exact v7 ⟨(((q9 HK).trans (q9 HK2)).trans (q9 HK3)).trans (q9 HK4),.inr ⟨en,pl,i4,q9 HRR,rfl,q9 HR4⟩⟩
      case measure=>rw [q9 HMU,q9 HMU4];omega
    ·have nq23:¬sl.tk.kind=23:=hk23
     have hi23:(rK sl.tk.kind==5&&((BS (tkS sl)).toList==(⟨#[45]⟩:ByteArray).toList))=false:=(isK (c:=23) rfl (by decide) (by decide) 5 rfl).trans (beq_eq_false_iff_ne.2 hk23)
     have hcon:([22,23]:List Int).contains sl.tk.kind=false:=by simp [nq22,nq23]
     have HRR:Hid (R=.ok l sl):=v7 (by rw [hRl,qh1 hcon])
     clear hcon hRl
     go_wp2_with (first|(go_at_call 215;refine (qg2 (q9 HRl)).mono ?_;rintro e w' ⟨rfl,hw'⟩;subst w';simp only [hi22,hi23]))
     go_ret
     rw [q9 HRR]
     exact ⟨q9 HK,new,rfl,q9 HRl,hol,hpl,q9 HFL⟩
  ·obtain ⟨c8,hen⟩:=hre.c8
   have HRe:=v7 hre
   have HK:=v7 hk
   clear hre hk hrel HA1
   go_wp2_with fail
   go_ret
   rw [hRl]
   exact ⟨q9 HK,i,rfl,q9 HRe⟩
end
section
theorem RReads.more {K rb:Nat} {s:ByteArray} {op m m':Nat} {f:St→Res} (h:RReads K rb s op m f) (hm:m≤m'):RReads K rb s op m' f:=fun w st ns j hr ho=>(h w st ns j hr ho).mono fun _ _ hE=>hE.more hm (Nat.le_refl _)
end
section
structure VN (w:World) (rb L:Nat) (ty:TypeId) (cs:Array Value):Prop where
 blk:w.heap[L]?=some (.cells cs ty (0,0))
 past:rb<L
 no:¬qv5 w rb L
section
variable {w w':World} {rb L:Nat} {ty:TypeId} {cs:Array Value}
theorem VN.lt (h:VN w rb L ty cs):L<w.heap.size:=(Array.getElem?_eq_some_iff.1 h.blk).1
theorem VN.cell (h:VN w rb L ty cs) (i:Nat):w.cell? ⟨L,i,none⟩=cs[i]?:=by
 have:=h.blk
 simp [World.cell?,this]
theorem VN.frz (h:VN w rb L ty cs) (i:Nat):w.frozen? ⟨L,i,none⟩=false:=by
 have:=h.blk
 simp [World.frozen?,this]
theorem VN.kept (h:VN w rb L ty cs) (hk:TKept rb w w'):VN w' rb L ty cs:=
 ⟨(hk.block L h.lt h.no).trans h.blk,h.past,fun ho=>h.no (hk.own L h.lt ho)⟩
theorem vw3 (w:World) {rb L:Nat} (hL:L≠rb) (i:Nat) (u:Value) (k:Nat):qv5 (w.setCell ⟨L,i,none⟩ u) rb k↔qv5 w rb k:=by
 have hc:(w.setCell ⟨L,i,none⟩ u).cell? ⟨rb,0,none⟩=w.cell? ⟨rb,0,none⟩:=World.cell?_of_block (w:=w) (a:=⟨rb,0,none⟩) (Below.heap_setCell w ⟨L,i,none⟩ u rb (fun e=>hL e.symm))
 unfold qv5;rw [hc]
theorem VN.set (h:VN w rb L ty cs) (i:Nat) (u:Value):VN (w.setCell ⟨L,i,none⟩ u) rb L ty (cs.setIfInBounds i u):=by
 refine ⟨?_,h.past,fun ho=>h.no ((vw3 w (by have:=h.past;omega) i u L).1 ho)⟩
 have:=h.blk
 simp [World.setCell,Array.getElem?_modify,this]
theorem VN.setB (h:VN w rb L ty cs) {M:Nat} (hM:L≠M) (hMr:M≠rb) (i:Nat) (u:Value):VN (w.setCell ⟨M,i,none⟩ u) rb L ty cs:=
 ⟨(Below.heap_setCell w ⟨M,i,none⟩ u L hM).trans h.blk,h.past,fun ho=>h.no ((vw3 w hMr i u L).1 ho)⟩
theorem VN.rt {s:ByteArray} {ns:List RN} {j:Nat} {st:St} (h:VN w rb L ty cs) (h1:(3:TypeId)≠ty) (h2:(9:TypeId)≠ty) (hr:RT w rb s ns j st) (i:Nat) (u:Value):RT (w.setCell ⟨L,i,none⟩ u) rb s ns j st:=by
 obtain ⟨nv,hT,hN,hF,hj⟩:=hr
 have hL:L≠rb:=by have:=h.past;omega
 have hb:(w.setCell ⟨L,i,none⟩ u).heap[rb]?=w.heap[rb]?:=Below.heap_setCell w ⟨L,i,none⟩ u rb (fun e=>hL e.symm)
 have hc:∀j,(w.setCell ⟨L,i,none⟩ u).cell? ⟨rb,j,none⟩=w.cell? ⟨rb,j,none⟩:=fun j=>World.cell?_of_block (w:=w) (a:=⟨rb,j,none⟩) hb
 have hf:∀j,(w.setCell ⟨L,i,none⟩ u).frozen? ⟨rb,j,none⟩=w.frozen? ⟨rb,j,none⟩:=fun j=>World.frozen?_of_block (w:=w) (a:=⟨rb,j,none⟩) hb
 refine ⟨nv,⟨by simpa using hT.lt,(hc _).trans hT.c0,(hc _).trans hT.c1,(hc _).trans hT.c2,(hc _).trans hT.c3,(hc _).trans hT.c4,(hc _).trans hT.c5,(hc _).trans hT.c6,(hc _).trans hT.c7,(hc _).trans hT.c8,(hc _).trans hT.c9,fun j=>(hf j).trans (hT.fz j)⟩,hN.far h.blk h1 h2 hL (fun e=>h.no (.inr ⟨nv,hT.c0,e⟩)) i u,hF,hj⟩
theorem VN.re {s:ByteArray} {en pl:Int} {op m:Nat} (h:VN w rb L ty cs) (h1:(3:TypeId)≠ty) (h2:(9:TypeId)≠ty) (hr:RE w rb s en pl op m) (i:Nat) (u:Value):RE (w.setCell ⟨L,i,none⟩ u) rb s en pl op m:=by
 obtain ⟨nv,a,ns,hT,he,hN,hm⟩:=hr
 have hL:L≠rb:=by have:=h.past;omega
 have hb:(w.setCell ⟨L,i,none⟩ u).heap[rb]?=w.heap[rb]?:=Below.heap_setCell w ⟨L,i,none⟩ u rb (fun e=>hL e.symm)
 have hc:∀j,(w.setCell ⟨L,i,none⟩ u).cell? ⟨rb,j,none⟩=w.cell? ⟨rb,j,none⟩:=fun j=>World.cell?_of_block (w:=w) (a:=⟨rb,j,none⟩) hb
 have hf:∀j,(w.setCell ⟨L,i,none⟩ u).frozen? ⟨rb,j,none⟩=w.frozen? ⟨rb,j,none⟩:=fun j=>World.frozen?_of_block (w:=w) (a:=⟨rb,j,none⟩) hb
 refine ⟨nv,a,ns,⟨by simpa using hT.lt,(hc _).trans hT.c0,(hc _).trans hT.c1,(hc _).trans hT.c2,(hc _).trans hT.c3,(hc _).trans hT.c4,(hc _).trans hT.c5,(hc _).trans hT.c6,(hc _).trans hT.c7,(hc _).trans hT.c8,(hc _).trans hT.c9,fun j=>(hf j).trans (hT.fz j)⟩,he,hN.far h.blk h1 h2 hL (fun e=>h.no (.inr ⟨nv,hT.c0,e⟩)) i u,hm⟩
theorem VN.row {ty':TypeId} {v:Value} {vs:List Value} (h:VN w rb L ty cs) (h1:ty'≠ty) (hr:RowOf w rb ty' v vs) (i:Nat) (u:Value):RowOf (w.setCell ⟨L,i,none⟩ u) rb ty' v vs:=hr.far h.blk h1 (by have:=h.past;omega) i u
theorem VN.new {s:ByteArray} {ns:List RN} {j:Nat} {st:St} (h:RT w rb s ns j st) (ty:TypeId) (cs:Array Value) {L:Nat} (hL:L=w.heap.size):VN (w.alloc (.cells cs ty)) rb L ty cs:=by
 subst hL;exact ⟨heap_alloc_new w _,h.lt,h.fresh _⟩
theorem VN.newE {s:ByteArray} {en pl:Int} {op m:Nat} (h:RE w rb s en pl op m) (ty:TypeId) (cs:Array Value) {L:Nat} (hL:L=w.heap.size):VN (w.alloc (.cells cs ty)) rb L ty cs:=by
 subst hL;exact ⟨heap_alloc_new w _,h.lt,h.fresh _⟩
theorem VN.alloc (h:VN w rb L ty cs) (hlt:rb<w.heap.size) (o:Obj):VN (w.alloc o) rb L ty cs:=h.kept (TKept.of_below ((Below.refl _ _).alloc (Nat.le_refl _) o) hlt)
end
section
variable {w:World} {rb:Nat} {s:ByteArray} {ns:List RN} {j:Nat} {st:St} {en pl:Int} {op m:Nat}
theorem vq4 (h:RT w rb s ns (j+1) st) (hs:s.size≤200) (p:Pay) (hp:p.num=0) (ins:List Nat) (neg:Bool) {N S E:ByteArray} {iv lv:Value} (hN:BS (qc6 p.op)=N) (hS:BS p.str=S) (hE:BS p.esc=E) (hi:RowOf w rb 3 iv (qv6 ins)) (hl:RowOf w rb 9 lv (x9 p.texts)) :
  Calls Tryz.prog 216 #[.pointer (some ⟨rb,0,none⟩),.agg #[.string N,.int .i64 p.place,iv,.string S,.string E,lv,.int .i64 0,.bool neg,.int .i64 0]] w
   fun e w'=>e=.returned (.int .i64 ns.length)∧TKept rb w w'∧RT w' rb s (ns++[qi3 p ins neg]) j st:=by
 have:=vi7 h hs (qi3 p ins neg) hi hl
 unfold rnV at this
 have e1:(qi3 p ins neg).op=qc6 p.op:=rfl
 have e2:(qi3 p ins neg).str=p.str:=rfl
 have e3:(qi3 p ins neg).esc=p.esc:=rfl
 have e4:(qi3 p ins neg).num=p.num:=rfl
 rw [e1,e2,e3,e4,hp,hN,hS,hE] at this
 exact this
theorem qy6 (h:RE w rb s en pl op m) (hm:m≤1000) (ins:List Nat) (ts:List (List UInt8)) (neg:Bool) {N S E:ByteArray} {a:Int} {iv lv:Value} (hi:RowOf w rb 3 iv (qv6 ins)) (hl:RowOf w rb 9 lv (x9 ts)) :
  Calls Tryz.prog 216 #[.pointer (some ⟨rb,0,none⟩),.agg #[.string N,.int .i64 a,iv,.string S,.string E,lv,.int .i64 0,.bool neg,.int .i64 0]] w
   fun e w'=>∃i:Nat,e=.returned (.int .i64 i)∧TKept rb w w'∧RE w' rb s en pl op (m+1):=
 vi6 h hm ⟨N.data.toList,a,ins,S.data.toList,E.data.toList,ts,0,neg,0⟩ hi hl
end
end
end Go.Proofs.YtfkcaldjphakpaaGreatDoor
