/- The document's answer: sum. The document's answer: denied. -/
import Derived.Test.YtfkcaldjphakpaaGreatDoorM20
import Derived.Test.YtfkcaldjphakpaaGreatDoorM05
namespace Go.Proofs.YtfkcaldjphakpaaGreatDoor
open Go.RowKit
section
set_option maxHeartbeats 16000000 in
set_option maxRecDepth 100000 in
theorem jm0 (rb:Nat) (s:ByteArray) (hs:s.size≤200) (op m:Nat) (hm:200≤m) (hm':m≤900) (f:St→Res) (hf:RReads 342 rb s op m f):RReads 320 rb s op (m+1) (qe4 s f [22,23]):=by
 intro w st ns j h ho
 have HF:=j4 hf
 have HC:=j4 (hf w st ns j h ho)
 obtain ⟨R,hR⟩:∃r,qe4 s f [22,23] st=r:=⟨_,rfl⟩
 rw [hR]
 have HR:=j4 hR
 clear hf h hR
 go_enter Tryz.func320,Tryz.ntmps320
 go_wp2_with (go_at_call 342;refine (q9 HC).mono ?_;rintro e w1 h1;have H1:Hid (∃v,e=.returned v∧RowAt rb s w op (m+1) ns j st.place R f [22,23] v w1):=j4 (by
   obtain ⟨hk1,h1⟩:=h1
   rw [←q9 HR]
   cases hres:f st with
   | ok l0 st0=>rw [hres] at h1;obtain ⟨new,rfl,hr1,ho1,hp1,hfl⟩:=h1;exact ⟨_,rfl,hk1,.inl ⟨s.size+1,l0,st0,new,qp2 hres,by omega,rfl,hr1,ho1,hp1,hfl⟩⟩
   | err en pl=>rw [hres] at h1;obtain ⟨i,rfl,hr1⟩:=h1;exact ⟨_,rfl,hk1,.inr ⟨en,pl,i,qm0 hres,rfl,hr1.more (by omega)⟩⟩);clear h1;obtain ⟨v1,rfl,h1⟩:=q9 H1;have HA1:=j4 h1;clear H1 h1)
 go_loopw [3] (fun v wr=>Hid (RowAt rb s w op (m+1) ns j st.place R f [22,23] v wr)) (fun v wr=>meT s wr rb)
 case atStart=>exact HA1
 case round=>
  obtain ⟨hk,hc⟩:=q9 hrel
  rcases hc with ⟨n,l,sl,new,hRl,hn,rfl,hrl,hol,hpl,hfl⟩|⟨en,pl,i,hRl,rfl,hre⟩
  ·have hfine:=hrl.fine
   have hfp:=hfine.place
   have hltr:=hrl.lt
   obtain ⟨c2,c3,c4,c5,c6⟩:=hrl.ct
   have c8:=hrl.c8
   have hmu:=qw8 hrl
   obtain ⟨mm,rfl⟩:∃mm,n=mm+1:=⟨n - 1,by omega⟩
   have HRl:=j4 hrl
   have HK:=j4 hk
   have HFL:=j4 hfl
   have HMU:=j4 hmu
   clear hrl hk hfl hmu hrel HA1
   by_cases hk22:sl.tk.kind=22
   ·have hi22:(rK sl.tk.kind==5&&((BS (tkS sl)).toList==(⟨#[43]⟩:ByteArray).toList))=true:=(isK (c:=22) rfl (by decide) (by decide) 5 rfl).trans (by rw [hk22];rfl)
    have hcon:([22,23]:List Int).contains sl.tk.kind=true:=by rw [hk22];rfl
    have hpp:=hfine.step_place (by omega)
    rw [show rK sl.tk.kind=5 by rw [hk22];rfl] at c2
    rw [show tkZ sl=(sl.after:Int) by unfold tkZ;rw [if_neg (by omega)]] at c4
    rw [show BS (tkS sl)=⟨#[43]⟩ by rw [vw2 (by omega),hk22];rfl] at c5
    have hfr:=(q9 HRl).fresh (.cells #[.int .i64 5,.int .i64 sl.place,.int .i64 sl.after,.string ⟨#[43]⟩,.int .i64 (tkN sl)] 235)
    have h':=(q9 HRl).alloc (.cells #[.int .i64 5,.int .i64 sl.place,.int .i64 sl.after,.string ⟨#[43]⟩,.int .i64 (tkN sl)] 235)
    have n0:¬wr.heap.size=rb:=by omega
    have n1:¬rb=wr.heap.size:=by omega
    have FR:=j4 hfr
    have H':=j4 h'
    clear hfr h'
    cases hres:f (j3 s sl) with
    | ok r st2=>
     have HRR:Hid (R=qb7 s f [22,23] mm (vr5 sl l r) st2):=j4 (by rw [hRl,qf7 hcon (qg6 hres)])
     have HRES:=j4 hres
     clear hcon hRl hres
     go_wp2_with (first|(go_at_call 215;refine (qh0 (q9 HRl)).mono ?_;rintro e w' ⟨rfl,hw'⟩;subst w';simp only [hi22])|(go_at_call 172;refine (qa6 (q9 H') hs (by omega) (by omega)).mono ?_;rintro e w2 ⟨rfl,hk2,hr2⟩;obtain ⟨hc,hf,_,hno,hL⟩:=hk2.mine (by simp) (q9 FR);have p1:w2.cell? ⟨wr.heap.size,1,none⟩=some (.int .i64 sl.place):=(hc 1).trans (by simp);have p3:w2.cell? ⟨wr.heap.size,3,none⟩=some (.string ⟨#[43]⟩):=(hc 3).trans (by simp);have HO2:=j4 hno;have HK2:=j4 (qf6 hltr hk2);have HR2:=j4 hr2;clear hk2 hr2 hc hf hno)|(go_at_call 342;refine (q9 HF _ (j3 s sl) (ns++new) (j+1) (q9 HR2) hol).mono ?_;rintro e w3 ⟨hk3,h3⟩;rw [q9 HRES] at h3;obtain ⟨new3,rfl,hr3,ho3,hp3,hfl3⟩:=h3;have HFL3:=j4 hfl3;clear hfl3;obtain ⟨hc,hf,_,hno,hL2⟩:=hk3.mine hL (q9 HO2);have q1:w3.cell? ⟨wr.heap.size,1,none⟩=some (.int .i64 sl.place):=(hc 1).trans p1;have q3:w3.cell? ⟨wr.heap.size,3,none⟩=some (.string ⟨#[43]⟩):=(hc 3).trans p3;have HK3:=j4 hk3;have HR3:=j4 hr3;clear hk3 hr3 hc hf hno)|(go_at_call 216;refine (qs6 (q9 HR3) hs ⟨qw9 sl.tk.kind,sl.place,0,[],[],[]⟩ (ns.length+new.length - 1) (ns.length+new.length+new3.length - 1) (by rw [hk22];rfl) rfl rfl rfl (by simp)).mono ?_;rintro e w4 ⟨rfl,hk4,hr4⟩;have hf4:=hr4.fine.place;have HMU4:=j4 (qw8 hr4);have HK4:=j4 hk4;have HR4:=j4 hr4;clear hk4 hr4))
     go_roundw
     case rel=>
      refine j4 ⟨(((q9 HK).trans (q9 HK2)).trans (q9 HK3)).trans (q9 HK4),.inl ⟨mm,_,st2,new++new3++[qj5 ⟨qw9 sl.tk.kind,sl.place,0,[],[],[]⟩ [ns.length+new.length - 1,ns.length+new.length+new3.length - 1] false],q9 HRR,by omega,vj4 (by simp;omega), ?_,ho3,by omega,Flat.bin _ (q9 HFL) (by have:=q9 HFL3;rwa [List.length_append] at this)⟩⟩
      have:=q9 HR4
      simpa only [List.append_assoc] using this
     case measure=>rw [q9 HMU,q9 HMU4];omega
    | err en pl=>
     have HRR:Hid (R=.err en pl):=j4 (by rw [hRl,qh3 hcon (qf2 hres)])
     have HRES:=j4 hres
     clear hcon hRl hres
     go_wp2_with (first|(go_at_call 215;refine (qh0 (q9 HRl)).mono ?_;rintro e w' ⟨rfl,hw'⟩;subst w';simp only [hi22])|(go_at_call 172;refine (qa6 (q9 H') hs (by omega) (by omega)).mono ?_;rintro e w2 ⟨rfl,hk2,hr2⟩;obtain ⟨hc,hf,_,hno,hL⟩:=hk2.mine (by simp) (q9 FR);have p1:w2.cell? ⟨wr.heap.size,1,none⟩=some (.int .i64 sl.place):=(hc 1).trans (by simp);have p3:w2.cell? ⟨wr.heap.size,3,none⟩=some (.string ⟨#[43]⟩):=(hc 3).trans (by simp);have HO2:=j4 hno;have HK2:=j4 (qf6 hltr hk2);have HR2:=j4 hr2;clear hk2 hr2 hc hf hno)|(go_at_call 342;refine (q9 HF _ (j3 s sl) (ns++new) (j+1) (q9 HR2) hol).mono ?_;rintro e w3 ⟨hk3,h3⟩;rw [q9 HRES] at h3;obtain ⟨i3,rfl,hr3⟩:=h3;obtain ⟨hc,hf,_,hno,hL2⟩:=hk3.mine hL (q9 HO2);have q1:w3.cell? ⟨wr.heap.size,1,none⟩=some (.int .i64 sl.place):=(hc 1).trans p1;have q3:w3.cell? ⟨wr.heap.size,3,none⟩=some (.string ⟨#[43]⟩):=(hc 3).trans p3;have HK3:=j4 hk3;have HR3:=j4 hr3;clear hk3 hr3 hc hf hno)|(go_at_call 216;refine (qq5 (q9 HR3) (by omega) [43] sl.place (ns.length+new.length - 1) i3 rfl (by simp)).mono ?_;rintro e w4 ⟨i4,rfl,hk4,hr4⟩;have HMU4:=j4 (vt1 hr4);have HK4:=j4 hk4;have HR4:=j4 hr4;clear hk4 hr4))
     go_roundw
     case rel=>exact j4 ⟨(((q9 HK).trans (q9 HK2)).trans (q9 HK3)).trans (q9 HK4),.inr ⟨en,pl,i4,q9 HRR,rfl,q9 HR4⟩⟩
     case measure=>rw [q9 HMU,q9 HMU4];omega
   ·have nq22:¬sl.tk.kind=22:=hk22
    have hi22:(rK sl.tk.kind==5&&((BS (tkS sl)).toList==(⟨#[43]⟩:ByteArray).toList))=false:=(isK (c:=22) rfl (by decide) (by decide) 5 rfl).trans (beq_eq_false_iff_ne.2 hk22)
    by_cases hk23:sl.tk.kind=23
    ·have hi23:(rK sl.tk.kind==5&&((BS (tkS sl)).toList==(⟨#[45]⟩:ByteArray).toList))=true:=(isK (c:=23) rfl (by decide) (by decide) 5 rfl).trans (by rw [hk23];rfl)
     have hcon:([22,23]:List Int).contains sl.tk.kind=true:=by rw [hk23];rfl
     have hpp:=hfine.step_place (by omega)
     rw [show rK sl.tk.kind=5 by rw [hk23];rfl] at c2
     rw [show tkZ sl=(sl.after:Int) by unfold tkZ;rw [if_neg (by omega)]] at c4
     rw [show BS (tkS sl)=⟨#[45]⟩ by rw [vw2 (by omega),hk23];rfl] at c5
     have hfr:=(q9 HRl).fresh (.cells #[.int .i64 5,.int .i64 sl.place,.int .i64 sl.after,.string ⟨#[45]⟩,.int .i64 (tkN sl)] 235)
     have h':=(q9 HRl).alloc (.cells #[.int .i64 5,.int .i64 sl.place,.int .i64 sl.after,.string ⟨#[45]⟩,.int .i64 (tkN sl)] 235)
     have n0:¬wr.heap.size=rb:=by omega
     have n1:¬rb=wr.heap.size:=by omega
     have FR:=j4 hfr
     have H':=j4 h'
     clear hfr h'
     cases hres:f (j3 s sl) with
     | ok r st2=>
      have HRR:Hid (R=qb7 s f [22,23] mm (vr5 sl l r) st2):=j4 (by rw [hRl,qf7 hcon (qg6 hres)])
      have HRES:=j4 hres
      clear hcon hRl hres
      go_wp2_with (first|(go_at_call 215;refine (qh0 (q9 HRl)).mono ?_;rintro e w' ⟨rfl,hw'⟩;subst w';simp only [hi22,hi23])|(go_at_call 172;refine (qa6 (q9 H') hs (by omega) (by omega)).mono ?_;rintro e w2 ⟨rfl,hk2,hr2⟩;obtain ⟨hc,hf,_,hno,hL⟩:=hk2.mine (by simp) (q9 FR);have p1:w2.cell? ⟨wr.heap.size,1,none⟩=some (.int .i64 sl.place):=(hc 1).trans (by simp);have p3:w2.cell? ⟨wr.heap.size,3,none⟩=some (.string ⟨#[45]⟩):=(hc 3).trans (by simp);have HO2:=j4 hno;have HK2:=j4 (qf6 hltr hk2);have HR2:=j4 hr2;clear hk2 hr2 hc hf hno)|(go_at_call 342;refine (q9 HF _ (j3 s sl) (ns++new) (j+1) (q9 HR2) hol).mono ?_;rintro e w3 ⟨hk3,h3⟩;rw [q9 HRES] at h3;obtain ⟨new3,rfl,hr3,ho3,hp3,hfl3⟩:=h3;have HFL3:=j4 hfl3;clear hfl3;obtain ⟨hc,hf,_,hno,hL2⟩:=hk3.mine hL (q9 HO2);have q1:w3.cell? ⟨wr.heap.size,1,none⟩=some (.int .i64 sl.place):=(hc 1).trans p1;have q3:w3.cell? ⟨wr.heap.size,3,none⟩=some (.string ⟨#[45]⟩):=(hc 3).trans p3;have HK3:=j4 hk3;have HR3:=j4 hr3;clear hk3 hr3 hc hf hno)|(go_at_call 216;refine (qs6 (q9 HR3) hs ⟨qw9 sl.tk.kind,sl.place,0,[],[],[]⟩ (ns.length+new.length - 1) (ns.length+new.length+new3.length - 1) (by rw [hk23];rfl) rfl rfl rfl (by simp)).mono ?_;rintro e w4 ⟨rfl,hk4,hr4⟩;have hf4:=hr4.fine.place;have HMU4:=j4 (qw8 hr4);have HK4:=j4 hk4;have HR4:=j4 hr4;clear hk4 hr4))
      go_roundw
      case rel=>
       refine j4 ⟨(((q9 HK).trans (q9 HK2)).trans (q9 HK3)).trans (q9 HK4),.inl ⟨mm,_,st2,new++new3++[qj5 ⟨qw9 sl.tk.kind,sl.place,0,[],[],[]⟩ [ns.length+new.length - 1,ns.length+new.length+new3.length - 1] false],q9 HRR,by omega,vj4 (by simp;omega), ?_,ho3,by omega,Flat.bin _ (q9 HFL) (by have:=q9 HFL3;rwa [List.length_append] at this)⟩⟩
       have:=q9 HR4
       simpa only [List.append_assoc] using this
      case measure=>rw [q9 HMU,q9 HMU4];omega
     | err en pl=>
      have HRR:Hid (R=.err en pl):=j4 (by rw [hRl,qh3 hcon (qf2 hres)])
      have HRES:=j4 hres
      clear hcon hRl hres
      go_wp2_with (first|(go_at_call 215;refine (qh0 (q9 HRl)).mono ?_;rintro e w' ⟨rfl,hw'⟩;subst w';simp only [hi22,hi23])|(go_at_call 172;refine (qa6 (q9 H') hs (by omega) (by omega)).mono ?_;rintro e w2 ⟨rfl,hk2,hr2⟩;obtain ⟨hc,hf,_,hno,hL⟩:=hk2.mine (by simp) (q9 FR);have p1:w2.cell? ⟨wr.heap.size,1,none⟩=some (.int .i64 sl.place):=(hc 1).trans (by simp);have p3:w2.cell? ⟨wr.heap.size,3,none⟩=some (.string ⟨#[45]⟩):=(hc 3).trans (by simp);have HO2:=j4 hno;have HK2:=j4 (qf6 hltr hk2);have HR2:=j4 hr2;clear hk2 hr2 hc hf hno)|(go_at_call 342;refine (q9 HF _ (j3 s sl) (ns++new) (j+1) (q9 HR2) hol).mono ?_;rintro e w3 ⟨hk3,h3⟩;rw [q9 HRES] at h3;obtain ⟨i3,rfl,hr3⟩:=h3;obtain ⟨hc,hf,_,hno,hL2⟩:=hk3.mine hL (q9 HO2);have q1:w3.cell? ⟨wr.heap.size,1,none⟩=some (.int .i64 sl.place):=(hc 1).trans p1;have q3:w3.cell? ⟨wr.heap.size,3,none⟩=some (.string ⟨#[45]⟩):=(hc 3).trans p3;have HK3:=j4 hk3;have HR3:=j4 hr3;clear hk3 hr3 hc hf hno)|(go_at_call 216;refine (qq5 (q9 HR3) (by omega) [45] sl.place (ns.length+new.length - 1) i3 rfl (by simp)).mono ?_;rintro e w4 ⟨i4,rfl,hk4,hr4⟩;have HMU4:=j4 (vt1 hr4);have HK4:=j4 hk4;have HR4:=j4 hr4;clear hk4 hr4))
      go_roundw
      case rel=>exact j4 ⟨(((q9 HK).trans (q9 HK2)).trans (q9 HK3)).trans (q9 HK4),.inr ⟨en,pl,i4,q9 HRR,rfl,q9 HR4⟩⟩
      case measure=>rw [q9 HMU,q9 HMU4];omega
    ·have nq23:¬sl.tk.kind=23:=hk23
     have hi23:(rK sl.tk.kind==5&&((BS (tkS sl)).toList==(⟨#[45]⟩:ByteArray).toList))=false:=(isK (c:=23) rfl (by decide) (by decide) 5 rfl).trans (beq_eq_false_iff_ne.2 hk23)
     have hcon:([22,23]:List Int).contains sl.tk.kind=false:=by simp [nq22,nq23]
     have HRR:Hid (R=.ok l sl):=j4 (by rw [hRl,qi2 hcon])
     clear hcon hRl
     go_wp2_with (first|(go_at_call 215;refine (qh0 (q9 HRl)).mono ?_;rintro e w' ⟨rfl,hw'⟩;subst w';simp only [hi22,hi23]))
     go_ret
     rw [q9 HRR]
     exact ⟨q9 HK,new,rfl,q9 HRl,hol,hpl,q9 HFL⟩
  ·obtain ⟨c8,hen⟩:=hre.c8
   have HRe:=j4 hre
   have HK:=j4 hk
   clear hre hk hrel HA1
   go_wp2_with fail
   go_ret
   rw [hRl]
   exact ⟨q9 HK,i,rfl,q9 HRe⟩
end
section
theorem RReads.more {K rb:Nat} {s:ByteArray} {op m m':Nat} {f:St→Res} (h:RReads K rb s op m f) (hm:m≤m'):RReads K rb s op m' f:=fun w st ns j hr ho=>(h w st ns j hr ho).mono fun _ _ hE=>hE.more hm (Nat.le_refl _)
end
end Go.Proofs.YtfkcaldjphakpaaGreatDoor
