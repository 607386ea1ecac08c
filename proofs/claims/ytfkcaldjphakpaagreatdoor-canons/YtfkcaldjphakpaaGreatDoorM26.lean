/- What is read of tokens is read of them too where a closing parenthesis follows, some things open more, or it is too deep. A text that has these tokens reads so. The texts of Ranges, by their tokens. The tokens of a text behind which another one stands. The document's answer: product. The shapes of terms that are read, and how many there are. -/
import Derived.Test.YtfkcaldjphakpaaGreatDoorM09
import Derived.Test.YtfkcaldjphakpaaGreatDoorM10
import Derived.Test.YtfkcaldjphakpaaGreatDoorM03
import Derived.Test.YtfkcaldjphakpaaGreatDoorM20
namespace Go.Proofs.YtfkcaldjphakpaaGreatDoor
open Go.RowKit
section
def sh (X:List Tk) (k:Nat) (ts:TS):TS:=⟨ts.toks++X,ts.op+k⟩
theorem qc5 {ts:TS} {c:Int} (hc:c≠0) (h:ts.tk.kind=c):ts.toks≠[]:=by
 intro e
 unfold TS.tk at h
 rw [e] at h
 exact hc h.symm
section
variable {X:List Tk} {k o:Nat} {f f':TS→TRes}
end
end
section
inductive Lx:List UInt8→List Tk→Prop where
 | nil {r:List UInt8} (h:qd8 r 0=qa2 0):Lx r []
 | cons {r:List UInt8} {k:Tk} {L:List Tk} (e:qd8 r 0=k) (h:k.kind≠0) (t:Lx (r.drop (qi1 r 0)) L):Lx r (k::L)
theorem vg1 (l:List UInt8) (k:Nat):qe5 l k=k+qe5 (l.drop k) 0:=by
 unfold qe5;rw [List.drop_zero,Nat.zero_add]
theorem vg2 (l:List UInt8) (k:Nat):qd8 l k=qd8 (l.drop k) 0:=by
 unfold qd8
 rw [vg1 l k,←List.drop_drop,List.length_drop]
 by_cases h:k+qe5 (l.drop k) 0<l.length
 ·rw [if_pos h,if_pos (by omega)]
 ·rw [if_neg h,if_neg (by omega)]
theorem ja5 (l:List UInt8) (k:Nat) (hk:k≤l.length):qi1 l k=k+qi1 (l.drop k) 0:=by
 unfold qi1
 rw [vg1 l k,←List.drop_drop,List.length_drop]
 by_cases h:k+qe5 (l.drop k) 0<l.length
 ·rw [if_pos h,if_pos (by omega)];omega
 ·rw [if_neg h,if_neg (by omega)];omega
theorem vh9 {s:ByteArray} {r:List UInt8} {L:List Tk} (h:Lx r L):∀st:St,st.after≤s.size→s.data.toList.drop st.after=r→Str s (j3 s st) L:=by
 induction h with
 | nil h=>
  intro st _ hr
  refine .nil ?_
  show qd8 s.data.toList st.after=_
  rw [vg2,hr,h]
 | cons e h t ih=>
  intro st ha hr
  rename_i r k L
  have hk:(j3 s st).tk=k:=by
   show qd8 s.data.toList st.after=_
   rw [vg2,hr,e]
  rw [←hk]
  refine .cons (by rw [hk];exact h) (ih _ (qa7 s st ha).after ?_)
  show s.data.toList.drop (qi1 s.data.toList st.after)=_
  rw [ja5 _ _ (by rw [qa5];exact ha),←List.drop_drop,hr]
end
section
theorem lx_end:Lx [] []:=.nil rfl
end
section
structure Stop (d:UInt8):Prop where
 goe:qu4 d=false
 dig:qm2 d=false
 quo:(d==39)=false
 eq:(d==61)=false
 gt:(d==62)=false
theorem ite_ne {c:Prop} [Decidable c] {a b:Int} (ha:a≠0) (hb:b≠0):(if c then a else b)≠0:=by
 by_cases h:c
 ·rw [if_pos h];exact ha
 ·rw [if_neg h];exact hb
theorem kwK_ne (l:List UInt8):kwK l≠0:=by
 unfold kwK
 repeat refine ite_ne (by decide) ?_
 decide
theorem markK_ne (l:List UInt8):vm8 l≠0:=by
 unfold vm8
 repeat refine ite_ne (by decide) ?_
 decide
theorem word_ne (l:List UInt8):(qk2 l).kind≠0:=by
 unfold qk2
 by_cases h:qy1 (l.take (qb8 l))=2
 ·rw [if_pos h];show (2:Int)≠0;decide
 ·rw [if_neg h];exact kwK_ne _
theorem num_ne (l:List UInt8):(qr8 l).kind≠0:=by
 unfold qr8
 by_cases h:qi0 0 (l.take (qc0 qm2 l))≤9223372036854775807
 ·rw [if_pos h];show (3:Int)≠0;decide
 ·rw [if_neg h];show (1:Int)≠0;decide
theorem quot_ne (l:List UInt8):(qj4 l).kind≠0:=by
 unfold qj4
 cases qi5 (l.drop 1) with
 | none=>show (1:Int)≠0;decide
 | some r=>show (4:Int)≠0;decide
theorem mark_ne (l:List UInt8):qr3 l≠0:=by
 unfold qr3
 exact ite_ne (by decide) (markK_ne _)
theorem first_ne (l:List UInt8):(qf1 l).kind≠0:=by
 cases l with
 | nil=>show (1:Int)≠0;decide
 | cons c t=>
  show (if vc0 c then qk2 (c::t) else if qm2 c then qr8 (c::t) else if c==39 then qj4 (c::t) else qa2 (qr3 (c::t))).kind≠0
  by_cases hb:vc0 c=true
  ·rw [if_pos hb];exact word_ne _
  rw [if_neg hb]
  by_cases hg:qm2 c=true
  ·rw [if_pos hg];exact num_ne _
  rw [if_neg hg]
  by_cases hq:(c==39)=true
  ·rw [if_pos hq];exact quot_ne _
  rw [if_neg hq]
  exact mark_ne _
theorem next_in {l:List UInt8} (h:(qd8 l 0).kind≠0):qe5 l 0<l.length:=by
 apply Decidable.byContradiction
 intro hn
 unfold qd8 at h
 rw [if_neg hn] at h
 exact h rfl
theorem vm7:∀(n:Nat) (l:List UInt8),l.length≤n→∃L,Lx l L:=by
 intro n
 induction n with
 | zero=>
  intro l hl
  have:l=[]:=List.eq_nil_of_length_eq_zero (by omega)
  subst this
  exact ⟨[],lx_end⟩
 | succ n ih=>
  intro l hl
  by_cases h:qe5 l 0<l.length
  ·have hk:qd8 l 0=qf1 (l.drop (qe5 l 0)):=by unfold qd8;rw [if_pos h]
   have hz:0<qi1 l 0:=by
    unfold qi1
    rw [if_pos h]
    have:=va7 (l.drop (qe5 l 0)) (by rw [List.length_drop];omega)
    omega
   obtain ⟨L,hL⟩:=ih (l.drop (qi1 l 0)) (by rw [List.length_drop];omega)
   exact ⟨_,.cons rfl (by rw [hk];exact first_ne _) hL⟩
  ·exact ⟨[],.nil (by unfold qd8;rw [if_neg h])⟩
end
section
set_option maxHeartbeats 16000000 in
set_option maxRecDepth 100000 in
theorem vi2 (rb:Nat) (s:ByteArray) (hs:s.size≤200) (op m:Nat) (hm:200≤m) (hm':m≤900) (f:St→Res) (hf:RReads 351 rb s op m f):RReads 342 rb s op (m+1) (qe4 s f [24,25]):=by
 intro w st ns j h ho
 have HF:=j4 hf
 have HC:=j4 (hf w st ns j h ho)
 obtain ⟨R,hR⟩:∃r,qe4 s f [24,25] st=r:=⟨_,rfl⟩
 rw [hR]
 have HR:=j4 hR
 clear hf h hR
 go_enter Tryz.func342,Tryz.ntmps342
 go_wp2_with (go_at_call 351;refine (q9 HC).mono ?_;rintro e w1 h1;have H1:Hid (∃v,e=.returned v∧RowAt rb s w op (m+1) ns j st.place R f [24,25] v w1):=j4 (by
   obtain ⟨hk1,h1⟩:=h1
   rw [←q9 HR]
   cases hres:f st with
   | ok l0 st0=>rw [hres] at h1;obtain ⟨new,rfl,hr1,ho1,hp1,hfl⟩:=h1;exact ⟨_,rfl,hk1,.inl ⟨s.size+1,l0,st0,new,qp2 hres,by omega,rfl,hr1,ho1,hp1,hfl⟩⟩
   | err en pl=>rw [hres] at h1;obtain ⟨i,rfl,hr1⟩:=h1;exact ⟨_,rfl,hk1,.inr ⟨en,pl,i,qm0 hres,rfl,hr1.more (by omega)⟩⟩);clear h1;obtain ⟨v1,rfl,h1⟩:=q9 H1;have HA1:=j4 h1;clear H1 h1)
 go_loopw [3] (fun v wr=>Hid (RowAt rb s w op (m+1) ns j st.place R f [24,25] v wr)) (fun v wr=>meT s wr rb)
 case atStart=>exact HA1
 case round=>
  obtain ⟨hk,hc⟩:=q9 hrel
  rcases hc with ⟨n,l,sl,new,hRl,hn,rfl,hrl,hol,hpl,hfl⟩|⟨en,pl,i,hRl,rfl,hre⟩
  ·have hfine:=hrl.fine
   have hfp:=hfine.place
   have hltr:=hrl.lt
   obtain ⟨c2,c3,c4,c5,c6⟩:=hrl.ct
   have c8:=hrl.c8
   have hmu:=qw8 hrl
   obtain ⟨mm,rfl⟩:∃mm,n=mm+1:=⟨n - 1,by omega⟩
   have HRl:=j4 hrl
   have HK:=j4 hk
   have HFL:=j4 hfl
   have HMU:=j4 hmu
   clear hrl hk hfl hmu hrel HA1
   by_cases hk24:sl.tk.kind=24
   ·have hi24:(rK sl.tk.kind==5&&((BS (tkS sl)).toList==(⟨#[42]⟩:ByteArray).toList))=true:=(isK (c:=24) rfl (by decide) (by decide) 5 rfl).trans (by rw [hk24];rfl)
    have hcon:([24,25]:List Int).contains sl.tk.kind=true:=by rw [hk24];rfl
    have hpp:=hfine.step_place (by omega)
    rw [show rK sl.tk.kind=5 by rw [hk24];rfl] at c2
    rw [show tkZ sl=(sl.after:Int) by unfold tkZ;rw [if_neg (by omega)]] at c4
    rw [show BS (tkS sl)=⟨#[42]⟩ by rw [vw2 (by omega),hk24];rfl] at c5
    have hfr:=(q9 HRl).fresh (.cells #[.int .i64 5,.int .i64 sl.place,.int .i64 sl.after,.string ⟨#[42]⟩,.int .i64 (tkN sl)] 235)
    have h':=(q9 HRl).alloc (.cells #[.int .i64 5,.int .i64 sl.place,.int .i64 sl.after,.string ⟨#[42]⟩,.int .i64 (tkN sl)] 235)
    have n0:¬wr.heap.size=rb:=by omega
    have n1:¬rb=wr.heap.size:=by omega
    have FR:=j4 hfr
    have H':=j4 h'
    clear hfr h'
    cases hres:f (j3 s sl) with
    | ok r st2=>
     have HRR:Hid (R=qb7 s f [24,25] mm (vr5 sl l r) st2):=j4 (by rw [hRl,qf7 hcon (qg6 hres)])
     have HRES:=j4 hres
     clear hcon hRl hres
     go_wp2_with (first|(go_at_call 215;refine (qh0 (q9 HRl)).mono ?_;rintro e w' ⟨rfl,hw'⟩;subst w';simp only [hi24])|(go_at_call 172;refine (qa6 (q9 H') hs (by omega) (by omega)).mono ?_;rintro e w2 ⟨rfl,hk2,hr2⟩;obtain ⟨hc,hf,_,hno,hL⟩:=hk2.mine (by simp) (q9 FR);have p1:w2.cell? ⟨wr.heap.size,1,none⟩=some (.int .i64 sl.place):=(hc 1).trans (by simp);have p3:w2.cell? ⟨wr.heap.size,3,none⟩=some (.string ⟨#[42]⟩):=(hc 3).trans (by simp);have HO2:=j4 hno;have HK2:=j4 (qf6 hltr hk2);have HR2:=j4 hr2;clear hk2 hr2 hc hf hno)|(go_at_call 351;refine (q9 HF _ (j3 s sl) (ns++new) (j+1) (q9 HR2) hol).mono ?_;rintro e w3 ⟨hk3,h3⟩;rw [q9 HRES] at h3;obtain ⟨new3,rfl,hr3,ho3,hp3,hfl3⟩:=h3;have HFL3:=j4 hfl3;clear hfl3;obtain ⟨hc,hf,_,hno,hL2⟩:=hk3.mine hL (q9 HO2);have q1:w3.cell? ⟨wr.heap.size,1,none⟩=some (.int .i64 sl.place):=(hc 1).trans p1;have q3:w3.cell? ⟨wr.heap.size,3,none⟩=some (.string ⟨#[42]⟩):=(hc 3).trans p3;have HK3:=j4 hk3;have HR3:=j4 hr3;clear hk3 hr3 hc hf hno)|(go_at_call 216;refine (qs6 (q9 HR3) hs ⟨qw9 sl.tk.kind,sl.place,0,[],[],[]⟩ (ns.length+new.length - 1) (ns.length+new.length+new3.length - 1) (by rw [hk24];rfl) rfl rfl rfl (by simp)).mono ?_;rintro e w4 ⟨rfl,hk4,hr4⟩;have hf4:=hr4.fine.place;have HMU4:=j4 (qw8 hr4);have HK4:=j4 hk4;have HR4:=j4 hr4;clear hk4 hr4))
     go_roundw
     case rel=>
      refine j4 ⟨(((q9 HK).trans (q9 HK2)).trans (q9 HK3)).trans (q9 HK4),.inl ⟨mm,_,st2,new++new3++[qj5 ⟨qw9 sl.tk.kind,sl.place,0,[],[],[]⟩ [ns.length+new.length - 1,ns.length+new.length+new3.length - 1] false],q9 HRR,by omega,vj4 (by simp;omega), ?_,ho3,by omega,Flat.bin _ (q9 HFL) (by have:=q9 HFL3;rwa [List.length_append] at this)⟩⟩
      have:=q9 HR4
      simpa only [List.append_assoc] using this
     case measure=>rw [q9 HMU,q9 HMU4];omega
    | err en pl=>
     have HRR:Hid (R=.err en pl):=j4 (by rw [hRl,qh3 hcon (qf2 hres)])
     have HRES:=j4 hres
     clear hcon hRl hres
     go_wp2_with (first|(go_at_call 215;refine (qh0 (q9 HRl)).mono ?_;rintro e w' ⟨rfl,hw'⟩;subst w';simp only [hi24])|(go_at_call 172;refine (qa6 (q9 H') hs (by omega) (by omega)).mono ?_;rintro e w2 ⟨rfl,hk2,hr2⟩;obtain ⟨hc,hf,_,hno,hL⟩:=hk2.mine (by simp) (q9 FR);have p1:w2.cell? ⟨wr.heap.size,1,none⟩=some (.int .i64 sl.place):=(hc 1).trans (by simp);have p3:w2.cell? ⟨wr.heap.size,3,none⟩=some (.string ⟨#[42]⟩):=(hc 3).trans (by simp);have HO2:=j4 hno;have HK2:=j4 (qf6 hltr hk2);have HR2:=j4 hr2;clear hk2 hr2 hc hf hno)|(go_at_call 351;refine (q9 HF _ (j3 s sl) (ns++new) (j+1) (q9 HR2) hol).mono ?_;rintro e w3 ⟨hk3,h3⟩;rw [q9 HRES] at h3;obtain ⟨i3,rfl,hr3⟩:=h3;obtain ⟨hc,hf,_,hno,hL2⟩:=hk3.mine hL (q9 HO2);have q1:w3.cell? ⟨wr.heap.size,1,none⟩=some (.int .i64 sl.place):=(hc 1).trans p1;have q3:w3.cell? ⟨wr.heap.size,3,none⟩=some (.string ⟨#[42]⟩):=(hc 3).trans p3;have HK3:=j4 hk3;have HR3:=j4 hr3;clear hk3 hr3 hc hf hno)|(go_at_call 216;refine (qq5 (q9 HR3) (by omega) [42] sl.place (ns.length+new.length - 1) i3 rfl (by simp)).mono ?_;rintro e w4 ⟨i4,rfl,hk4,hr4⟩;have HMU4:=j4 (vt1 hr4);have HK4:=j4 hk4;have HR4:=j4 hr4;clear hk4 hr4))
     go_roundw
     case rel=>exact j4 ⟨(((q9 HK).trans (q9 HK2)).trans (q9 HK3)).trans (q9 HK4),.inr ⟨en,pl,i4,q9 HRR,rfl,q9 HR4⟩⟩
     case measure=>rw [q9 HMU,q9 HMU4];omega
   ·have nq24:¬sl.tk.kind=24:=hk24
    have hi24:(rK sl.tk.kind==5&&((BS (tkS sl)).toList==(⟨#[42]⟩:ByteArray).toList))=false:=(isK (c:=24) rfl (by decide) (by decide) 5 rfl).trans (beq_eq_false_iff_ne.2 hk24)
    by_cases hk25:sl.tk.kind=25
    ·have hi25:(rK sl.tk.kind==5&&((BS (tkS sl)).toList==(⟨#[47]⟩:ByteArray).toList))=true:=(isK (c:=25) rfl (by decide) (by decide) 5 rfl).trans (by rw [hk25];rfl)
     have hcon:([24,25]:List Int).contains sl.tk.kind=true:=by rw [hk25];rfl
     have hpp:=hfine.step_place (by omega)
     rw [show rK sl.tk.kind=5 by rw [hk25];rfl] at c2
     rw [show tkZ sl=(sl.after:Int) by unfold tkZ;rw [if_neg (by omega)]] at c4
     rw [show BS (tkS sl)=⟨#[47]⟩ by rw [vw2 (by omega),hk25];rfl] at c5
     have hfr:=(q9 HRl).fresh (.cells #[.int .i64 5,.int .i64 sl.place,.int .i64 sl.after,.string ⟨#[47]⟩,.int .i64 (tkN sl)] 235)
     have h':=(q9 HRl).alloc (.cells #[.int .i64 5,.int .i64 sl.place,.int .i64 sl.after,.string ⟨#[47]⟩,.int .i64 (tkN sl)] 235)
     have n0:¬wr.heap.size=rb:=by omega
     have n1:¬rb=wr.heap.size:=by omega
     have FR:=j4 hfr
     have H':=j4 h'
     clear hfr h'
     cases hres:f (j3 s sl) with
     | ok r st2=>
      have HRR:Hid (R=qb7 s f [24,25] mm (vr5 sl l r) st2):=j4 (by rw [hRl,qf7 hcon (qg6 hres)])
      have HRES:=j4 hres
      clear hcon hRl hres
      go_wp2_with (first|(go_at_call 215;refine (qh0 (q9 HRl)).mono ?_;rintro e w' ⟨rfl,hw'⟩;subst w';simp only [hi24,hi25])|(go_at_call 172;refine (qa6 (q9 H') hs (by omega) (by omega)).mono ?_;rintro e w2 ⟨rfl,hk2,hr2⟩;obtain ⟨hc,hf,_,hno,hL⟩:=hk2.mine (by simp) (q9 FR);have p1:w2.cell? ⟨wr.heap.size,1,none⟩=some (.int .i64 sl.place):=(hc 1).trans (by simp);have p3:w2.cell? ⟨wr.heap.size,3,none⟩=some (.string ⟨#[47]⟩):=(hc 3).trans (by simp);have HO2:=j4 hno;have HK2:=j4 (qf6 hltr hk2);have HR2:=j4 hr2;clear hk2 hr2 hc hf hno)|(go_at_call 351;refine (q9 HF _ (j3 s sl) (ns++new) (j+1) (q9 HR2) hol).mono ?_;rintro e w3 ⟨hk3,h3⟩;rw [q9 HRES] at h3;obtain ⟨new3,rfl,hr3,ho3,hp3,hfl3⟩:=h3;have HFL3:=j4 hfl3;clear hfl3;obtain ⟨hc,hf,_,hno,hL2⟩:=hk3.mine hL (q9 HO2);have q1:w3.cell? ⟨wr.heap.size,1,none⟩=some (.int .i64 sl.place):=(hc 1).trans p1;have q3:w3.cell? ⟨wr.heap.size,3,none⟩=some (.string ⟨#[47]⟩):=(hc 3).trans p3;have HK3:=j4 hk3;have HR3:=j4 hr3;clear hk3 hr3 hc hf hno)|(go_at_call 216;refine (qs6 (q9 HR3) hs ⟨qw9 sl.tk.kind,sl.place,0,[],[],[]⟩ (ns.length+new.length - 1) (ns.length+new.length+new3.length - 1) (by rw [hk25];rfl) rfl rfl rfl (by simp)).mono ?_;rintro e w4 ⟨rfl,hk4,hr4⟩;have hf4:=hr4.fine.place;have HMU4:=j4 (qw8 hr4);have HK4:=j4 hk4;have HR4:=j4 hr4;clear hk4 hr4))
      go_roundw
      case rel=>
       refine j4 ⟨(((q9 HK).trans (q9 HK2)).trans (q9 HK3)).trans (q9 HK4),.inl ⟨mm,_,st2,new++new3++[qj5 ⟨qw9 sl.tk.kind,sl.place,0,[],[],[]⟩ [ns.length+new.length - 1,ns.length+new.length+new3.length - 1] false],q9 HRR,by omega,vj4 (by simp;omega), ?_,ho3,by omega,Flat.bin _ (q9 HFL) (by have:=q9 HFL3;rwa [List.length_append] at this)⟩⟩
       have:=q9 HR4
       simpa only [List.append_assoc] using this
      case measure=>rw [q9 HMU,q9 HMU4];omega
     | err en pl=>
      have HRR:Hid (R=.err en pl):=j4 (by rw [hRl,qh3 hcon (qf2 hres)])
      have HRES:=j4 hres
      clear hcon hRl hres
      go_wp2_with (first|(go_at_call 215;refine (qh0 (q9 HRl)).mono ?_;rintro e w' ⟨rfl,hw'⟩;subst w';simp only [hi24,hi25])|(go_at_call 172;refine (qa6 (q9 H') hs (by omega) (by omega)).mono ?_;rintro e w2 ⟨rfl,hk2,hr2⟩;obtain ⟨hc,hf,_,hno,hL⟩:=hk2.mine (by simp) (q9 FR);have p1:w2.cell? ⟨wr.heap.size,1,none⟩=some (.int .i64 sl.place):=(hc 1).trans (by simp);have p3:w2.cell? ⟨wr.heap.size,3,none⟩=some (.string ⟨#[47]⟩):=(hc 3).trans (by simp);have HO2:=j4 hno;have HK2:=j4 (qf6 hltr hk2);have HR2:=j4 hr2;clear hk2 hr2 hc hf hno)|(go_at_call 351;refine (q9 HF _ (j3 s sl) (ns++new) (j+1) (q9 HR2) hol).mono ?_;rintro e w3 ⟨hk3,h3⟩;rw [q9 HRES] at h3;obtain ⟨i3,rfl,hr3⟩:=h3;obtain ⟨hc,hf,_,hno,hL2⟩:=hk3.mine hL (q9 HO2);have q1:w3.cell? ⟨wr.heap.size,1,none⟩=some (.int .i64 sl.place):=(hc 1).trans p1;have q3:w3.cell? ⟨wr.heap.size,3,none⟩=some (.string ⟨#[47]⟩):=(hc 3).trans p3;have HK3:=j4 hk3;have HR3:=j4 hr3;clear hk3 hr3 hc hf hno)|(go_at_call 216;refine (qq5 (q9 HR3) (by omega) [47] sl.place (ns.length+new.length - 1) i3 rfl (by simp)).mono ?_;rintro e w4 ⟨i4,rfl,hk4,hr4⟩;have HMU4:=j4 (vt1 hr4);have HK4:=j4 hk4;have HR4:=j4 hr4;clear hk4 hr4))
      go_roundw
      case rel=>exact j4 ⟨(((q9 HK).trans (q9 HK2)).trans (q9 HK3)).trans (q9 HK4),.inr ⟨en,pl,i4,q9 HRR,rfl,q9 HR4⟩⟩
      case measure=>rw [q9 HMU,q9 HMU4];omega
    ·have nq25:¬sl.tk.kind=25:=hk25
     have hi25:(rK sl.tk.kind==5&&((BS (tkS sl)).toList==(⟨#[47]⟩:ByteArray).toList))=false:=(isK (c:=25) rfl (by decide) (by decide) 5 rfl).trans (beq_eq_false_iff_ne.2 hk25)
     have hcon:([24,25]:List Int).contains sl.tk.kind=false:=by simp [nq24,nq25]
     have HRR:Hid (R=.ok l sl):=j4 (by rw [hRl,qi2 hcon])
     clear hcon hRl
     go_wp2_with (first|(go_at_call 215;refine (qh0 (q9 HRl)).mono ?_;rintro e w' ⟨rfl,hw'⟩;subst w';simp only [hi24,hi25]))
     go_ret
     rw [q9 HRR]
     exact ⟨q9 HK,new,rfl,q9 HRl,hol,hpl,q9 HFL⟩
  ·obtain ⟨c8,hen⟩:=hre.c8
   have HRe:=j4 hre
   have HK:=j4 hk
   clear hre hk hrel HA1
   go_wp2_with fail
   go_ret
   rw [hRl]
   exact ⟨q9 HK,i,rfl,q9 HRe⟩
end
section
def ShA:Ast→Prop
 | .leaf p=>0≤p.op∧p.op≤4
 | .un p x=>(p.op=5∨p.op=14∨p.op=15∨p.op=21∨p.op=22∨p.op=23)∧(p.op=21→p.texts≠[])∧(p.op=21∨p.op=22∨p.op=23→opA x=0)∧ShA x
 | .bin p x y=>(6≤p.op∧p.op≤13∨16≤p.op∧p.op≤19)∧ShA x∧ShA y
 | .tri p x y z=>p.op=20∧ShA x∧ShA y∧ShA z
def ndA:Ast→Nat
 | .leaf _=>1
 | .un p x=>1+p.texts.length+ndA x
 | .bin _ x y=>1+ndA x+ndA y
 | .tri _ x y z=>1+ndA x+ndA y+ndA z
theorem opOf_rng (k:Int):6≤qw9 k∧qw9 k≤13∨16≤qw9 k∧qw9 k≤19:=by
 unfold qw9
 have ite':∀{c:Prop} [Decidable c] {a b:Int},(6≤a∧a≤13∨16≤a∧a≤19)→(6≤b∧b≤13∨16≤b∧b≤19)→(6≤(if c then a else b)∧(if c then a else b)≤13∨16≤(if c then a else b)∧(if c then a else b)≤19):=by
  intro c _ a b ha hb
  by_cases h:c
  ·rw [if_pos h];exact ha
  ·rw [if_neg h];exact hb
 repeat refine ite' (by decide) ?_
 decide
def Nd (f:TS→TRes):Prop:=∀ts t ts',f ts=.ok t ts'→ShA t∧ndA t+ts'.toks.length≤ts.toks.length
def NdT (l:Ast) (ts:TS) (t:Ast) (ts':TS):Prop:=ShA l→ShA t∧ndA t+ts'.toks.length≤ndA l+ts.toks.length
theorem qj9 {ts:TS} (h:ts.toks≠[]):ts.next.toks.length+1=ts.toks.length:=by
 cases ht:ts.toks with
 | nil=>exact absurd ht h
 | cons a r=>show (ts.toks.tail).length+1=_;rw [ht];rfl
theorem Nd.join {f:TS→TRes} (h:Nd f) (ts:TS) (l t:Ast) (ts':TS) (hne:ts.toks≠[]) (he:vd0 f ts l=.ok t ts'):NdT l ts t ts':=by
 intro hl
 unfold vd0 at he
 split at he
 ·rename_i hr
  injection he with h1 h2
  subst h1 h2
  obtain ⟨a,b⟩:=h _ _ _ hr
  have:=qj9 hne
  refine ⟨⟨opOf_rng _,hl,a⟩, ?_⟩
  show 1+ndA l+_+_≤_
  omega
 ·cases he
theorem Nd.loop {f:TS→TRes} (h:Nd f) (ks:List Int) (h0:ks.contains 0=false):∀n l ts t ts',va3 f ks n l ts=.ok t ts'→NdT l ts t ts':=by
 intro n
 induction n with
 | zero=>intro l ts t ts' he hl;rw [va3] at he;injection he with h1 h2;subst h1 h2;exact ⟨hl,Nat.le_refl _⟩
 | succ n ih=>
  intro l ts t ts' he hl
  rw [va3] at he
  by_cases hc:ks.contains ts.tk.kind=true
  ·rw [if_pos hc] at he
   have hne:ts.toks≠[]:=by
    intro e
    have:ts.tk.kind=0:=by unfold TS.tk;rw [e];rfl
    rw [this,h0] at hc
    cases hc
   split at he
   ·rename_i hj
    obtain ⟨a,b⟩:=h.join _ _ _ _ hne hj hl
    obtain ⟨c,d⟩:=ih _ _ _ _ he a
    exact ⟨c,by omega⟩
   ·cases he
  ·rw [if_neg hc] at he
   injection he with h1 h2;subst h1 h2;exact ⟨hl,Nat.le_refl _⟩
theorem Nd.row {f:TS→TRes} (h:Nd f) (ks:List Int) (h0:ks.contains 0=false):Nd (jf4 f ks):=by
 intro ts t ts' he
 unfold jf4 at he
 split at he
 ·rename_i hr
  obtain ⟨a,b⟩:=h _ _ _ hr
  obtain ⟨c,d⟩:=h.loop ks h0 _ _ _ _ _ he a
  exact ⟨c,by omega⟩
 ·cases he
theorem Nd.sign {f:TS→TRes} (h:Nd f) (o:Int) (ho:o=5∨o=14∨o=15) (ts:TS) (t:Ast) (ts':TS) (hne:ts.toks≠[]) (he:vd1 f o ts=.ok t ts'):ShA t∧ndA t+ts'.toks.length≤ts.toks.length:=by
 unfold vd1 at he
 split at he
 ·cases he
 ·split at he
  ·rename_i ts1 hr
   injection he with h1 h2
   subst h1 h2
   obtain ⟨a,b⟩:=h _ _ _ hr
   have:=qj9 hne
   refine ⟨⟨by simp only;omega,fun e=>?_,fun e=>?_,a⟩, ?_⟩
   ·simp only at e;omega
   ·simp only at e;omega
   ·show 1+0+_+ts1.toks.length≤_
    have e:(tIn ts).toks.length=ts.next.toks.length:=rfl
    omega
  ·cases he
theorem Nd.group {f:TS→TRes} (h:Nd f) (ts:TS) (t:Ast) (ts':TS) (he:qx0 f ts=.ok t ts'):ShA t∧ndA t+ts'.toks.length≤ts.toks.length:=by
 unfold qx0 at he
 split at he
 ·cases he
 ·split at he
  ·rename_i ts1 hr
   split at he
   ·injection he with h1 h2
    subst h1 h2
    obtain ⟨a,b⟩:=h _ _ _ hr
    have e:(tIn ts).toks.length≤ts.toks.length:=vb9 _
    have e2:=vb9 ts1.toks
    refine ⟨a, ?_⟩
    show _+ts1.toks.tail.length≤_
    omega
   ·cases he
  ·cases he
theorem vg0 {o n:Int} {s:List UInt8} (ho:0≤o∧o≤4) {ts:TS} (hne:ts.toks≠[]):ShA (jc9 o n s)∧ndA (jc9 o n s)+ts.next.toks.length≤ts.toks.length:=by
 have:=qj9 hne
 exact ⟨ho,by show 1+_≤_;omega⟩
theorem Nd.signed {f g:TS→TRes} (hS:Nd f) (hE:Nd g):Nd (qq7 f g):=by
 intro ts t ts' he
 unfold qq7 at he
 by_cases h22:ts.tk.kind=22
 ·rw [if_pos h22] at he;exact hS.sign 14 (by omega) _ _ _ (qc5 (by decide) h22) he
 rw [if_neg h22] at he
 by_cases h23:ts.tk.kind=23
 ·rw [if_pos h23] at he;exact hS.sign 15 (by omega) _ _ _ (qc5 (by decide) h23) he
 rw [if_neg h23] at he
 by_cases h26:ts.tk.kind=26
 ·rw [if_pos h26] at he;exact hE.group _ _ _ he
 rw [if_neg h26] at he
 by_cases h2:ts.tk.kind=2
 ·rw [if_pos h2] at he;injection he with e1 e2;subst e1 e2;exact vg0 (by decide) (qc5 (by decide) h2)
 rw [if_neg h2] at he
 by_cases h3:ts.tk.kind=3
 ·rw [if_pos h3] at he;injection he with e1 e2;subst e1 e2;exact vg0 (by decide) (qc5 (by decide) h3)
 rw [if_neg h3] at he
 by_cases h4:ts.tk.kind=4
 ·rw [if_pos h4] at he;injection he with e1 e2;subst e1 e2;exact vg0 (by decide) (qc5 (by decide) h4)
 rw [if_neg h4] at he
 by_cases h8:ts.tk.kind=8
 ·rw [if_pos h8] at he;injection he with e1 e2;subst e1 e2;exact vg0 (by decide) (qc5 (by decide) h8)
 rw [if_neg h8] at he
 by_cases h9:ts.tk.kind=9
 ·rw [if_pos h9] at he;injection he with e1 e2;subst e1 e2;exact vg0 (by decide) (qc5 (by decide) h9)
 rw [if_neg h9] at he
 cases he
theorem nd_isNull (l:Ast) (h0:opA l=0) (ts:TS) (t:Ast) (ts':TS) (hne:ts.toks≠[]) (he:tIsNull l ts=.ok t ts'):NdT l ts t ts':=by
 intro hl
 have n0:=qj9 hne
 unfold tIsNull at he
 by_cases h7:ts.next.tk.kind=7
 ·rw [if_pos h7] at he
  have n1:=qj9 (qc5 (by decide) h7)
  by_cases h15:ts.next.next.tk.kind=15
  ·rw [if_pos h15] at he;injection he with e1 e2;subst e1 e2
   have n2:=qj9 (qc5 (by decide) h15)
   exact ⟨⟨by simp,fun e=>by simp at e,fun e=>by simp at e,⟨by simp,fun e=>by simp at e,fun _=>h0,hl⟩⟩,by show 1+0+(1+0+ndA l)+_≤_;omega⟩
  ·rw [if_neg h15] at he;cases he
 ·rw [if_neg h7] at he
  by_cases h15:ts.next.tk.kind=15
  ·rw [if_pos h15] at he;injection he with e1 e2;subst e1 e2
   have n1:=qj9 (qc5 (by decide) h15)
   exact ⟨⟨by simp,fun e=>by simp at e,fun _=>h0,hl⟩,by show 1+0+ndA l+_≤_;omega⟩
  ·rw [if_neg h15] at he;cases he
theorem nd_inLoop (l:Ast) (h0:opA l=0):∀n xs ts t ts',xs≠[]→ShA l→qn3 l n xs ts=.ok t ts'→ShA t∧ndA t+ts'.toks.length≤1+xs.length+ndA l+ts.toks.length:=by
 intro n
 induction n with
 | zero=>intro xs ts t ts' _ _ he;rw [qn3] at he;cases he
 | succ n ih=>
  intro xs ts t ts' hx hl he
  rw [qn3] at he
  by_cases h28:ts.tk.kind=28
  ·rw [if_pos h28] at he
   have n1:=qj9 (qc5 (by decide) h28)
   by_cases h4:ts.next.tk.kind=4
   ·rw [if_pos h4] at he
    have n2:=qj9 (qc5 (by decide) h4)
    obtain ⟨a,b⟩:=ih _ _ _ _ (by simp) hl he
    refine ⟨a, ?_⟩
    rw [List.length_append] at b
    simp only [List.length_singleton] at b
    omega
   ·rw [if_neg h4] at he;cases he
  ·rw [if_neg h28] at he
   by_cases h27:ts.tk.kind=27
   ·rw [if_pos h27] at he;injection he with e1 e2;subst e1 e2
    have n1:=qj9 (qc5 (by decide) h27)
    exact ⟨⟨by simp,fun _=>hx,fun _=>h0,hl⟩,by show 1+xs.length+ndA l+_≤_;omega⟩
   ·rw [if_neg h27] at he;cases he
theorem nd_in (l:Ast) (h0:opA l=0) (ts:TS) (t:Ast) (ts':TS) (hne:ts.toks≠[]) (he:tInRes l ts=.ok t ts'):NdT l ts t ts':=by
 intro hl
 have n0:=qj9 hne
 unfold tInRes at he
 by_cases h26:ts.next.tk.kind=26
 ·rw [if_pos h26] at he
  have n1:=qj9 (qc5 (by decide) h26)
  by_cases h4:ts.next.next.tk.kind=4
  ·rw [if_pos h4] at he
   have n2:=qj9 (qc5 (by decide) h4)
   obtain ⟨a,b⟩:=nd_inLoop l h0 _ _ _ _ _ (by simp) hl he
   simp only [List.length_singleton] at b
   exact ⟨a,by omega⟩
  ·rw [if_neg h4] at he;cases he
 ·rw [if_neg h26] at he;cases he
theorem nd_like (l:Ast) (h0:opA l=0) (ts:TS) (t:Ast) (ts':TS) (hne:ts.toks≠[]) (he:tLike l ts=.ok t ts'):NdT l ts t ts':=by
 intro hl
 have n0:=qj9 hne
 have n1:=qc8 ts.next
 have n2:=qc8 ts.next.next
 have n3:=qc8 ts.next.next.next
 unfold tLike at he
 split at he
 ·split at he
  ·split at he
   ·injection he with e1 e2;subst e1 e2
    exact ⟨⟨by simp,fun e=>by simp at e,fun _=>h0,hl⟩,by show 1+0+ndA l+_≤_;omega⟩
   ·cases he
  ·injection he with e1 e2;subst e1 e2
   exact ⟨⟨by simp,fun e=>by simp at e,fun _=>h0,hl⟩,by show 1+0+ndA l+_≤_;omega⟩
 ·cases he
theorem Nd.between {f:TS→TRes} (h:Nd f) (l:Ast) (ts:TS) (t:Ast) (ts':TS) (he:qn8 f l ts=.ok t ts'):NdT l ts t ts':=by
 intro hl
 unfold qn8 at he
 by_cases h10:ts.tk.kind=10
 ·rw [if_pos h10] at he
  have n0:=qj9 (qc5 (by decide) h10)
  split at he
  ·rename_i ts1 e1
   obtain ⟨a,b⟩:=h _ _ _ e1
   split at he
   ·split at he
    ·rename_i e2
     obtain ⟨c,d⟩:=h _ _ _ e2
     have n1:=qc8 ts1
     injection he with e3 e4
     subst e3 e4
     exact ⟨⟨rfl,hl,a,c⟩,by show 1+ndA l+_+_+_≤_;omega⟩
    ·cases he
   ·cases he
  ·cases he
 ·rw [if_neg h10] at he;cases he
theorem Nd.keyword {f:TS→TRes} (h:Nd f) (bare:Bool) (l:Ast) (hb:bare=true→opA l=0) (ts:TS) (t:Ast) (ts':TS) (he:qk3 f bare l ts=.ok t ts'):NdT l ts t ts':=by
 unfold qk3 at he
 split at he
 ·rename_i g;exact nd_in _ (hb g.2) _ _ _ (qc5 (by decide) g.1) he
 split at he
 ·rename_i g;exact nd_like _ (hb g.2) _ _ _ (qc5 (by decide) g.1) he
 ·exact h.between _ _ _ _ he
theorem Nd.test {f:TS→TRes} (h:Nd f):Nd (vi5 f):=by
 intro ts t ts' he
 unfold vi5 at he
 split at he
 ·rename_i ts1 hr
  obtain ⟨a,b⟩:=h _ _ _ hr
  suffices hs:∀l,ShA l→vi4 f (ts.tk.kind==2&&opA l==0) l ts1=.ok t ts'→NdT l ts1 t ts' by
   obtain ⟨c,d⟩:=hs _ a he a
   exact ⟨c,by omega⟩
  intro l hl he
  have hbare:(ts.tk.kind==2&&opA l==0)=true→opA l=0:=fun e=>by simp only [Bool.and_eq_true,beq_iff_eq] at e;exact e.2
  unfold vi4 at he
  split at he
  ·rename_i g
   refine h.join _ _ _ _ ?_ he
   rcases g with e|e|e|e|e|e<;>exact qc5 (by decide) e
  split at he
  ·rename_i g
   split at he
   ·rename_i gb;exact nd_isNull _ (hbare gb) _ _ _ (qc5 (by decide) g) he
   ·injection he with e1 e2;subst e1 e2;exact fun _=>⟨hl,Nat.le_refl _⟩
  split at he
  ·rename_i g
   have n0:=qj9 (qc5 (by decide) g)
   split at he
   ·rename_i hk
    injection he with e1 e2;subst e1 e2
    intro hl
    obtain ⟨c,d⟩:=h.keyword _ _ hbare _ _ _ hk hl
    exact ⟨⟨by simp,fun e=>by simp at e,fun e=>by simp at e,c⟩,by show 1+0+_+_≤_;omega⟩
   ·cases he
  split at he
  ·exact h.keyword _ _ hbare _ _ _ he
  ·injection he with e1 e2;subst e1 e2;exact fun _=>⟨hl,Nat.le_refl _⟩
 ·cases he
theorem Nd.denied {fD fT:TS→TRes} (hD:Nd fD) (hT:Nd fT):Nd (qr6 fD fT):=by
 intro ts t ts' he
 unfold qr6 at he
 split at he
 ·rename_i g;exact hD.sign 5 (by omega) _ _ _ (qc5 (by decide) g) he
 ·exact hT _ _ _ he
structure Nd3 (L:T3):Prop where
 S:Nd L.S
 D:Nd L.D
 E:Nd L.E
theorem nd_up {L:T3} (h:Nd3 L):Nd3 (tUp L):=by
 have hS:=Nd.signed h.S h.E
 have hT:=((hS.row [24,25] rfl).row [22,23] rfl).test
 have hD:=Nd.denied h.D hT
 exact ⟨hS,hD,(hD.row [5] rfl).row [6] rfl⟩
theorem nd_lvl:∀d,Nd3 (tLvl d):=by
 intro d
 induction d with
 | zero=>exact nd_up ⟨(fun _ _ _ h=>by cases h),(fun _ _ _ h=>by cases h),(fun _ _ _ h=>by cases h)⟩
 | succ d ih=>exact nd_up ih
theorem lx_len {l:List UInt8} {L:List Tk} (h:Lx l L):L.length≤l.length:=by
 induction h with
 | nil _=>exact Nat.zero_le _
 | @cons r k L e h t ih=>
  have hl:=next_in (l:=r) (by rw [e];exact h)
  have hz:0<qi1 r 0:=by
   unfold qi1
   rw [if_pos hl]
   have:=va7 (r.drop (qe5 r 0)) (by rw [List.length_drop];omega)
   omega
  have:=vt4 r 0
  rw [List.length_drop] at ih
  simp only [List.length_cons]
  omega
theorem jf3:∀t,ShA (qn0 t)→ShA t:=by
 intro t
 induction t with
 | leaf p=>exact fun h=>h
 | un p x ih=>exact fun h=>⟨h.1,h.2.1,fun e=>by rw [←vt7];exact h.2.2.1 e,ih h.2.2.2⟩
 | bin p x y ihx ihy=>exact fun h=>⟨h.1,ihx h.2.1,ihy h.2.2⟩
 | tri p x y z ihx ihy ihz=>exact fun h=>⟨h.1,ihx h.2.1,ihy h.2.2.1,ihz h.2.2.2⟩
theorem nd_erase:∀t,ndA (qn0 t)=ndA t:=by
 intro t
 induction t with
 | leaf p=>rfl
 | un p x ih=>show 1+_+ndA (qn0 x)=_;rw [ih];rfl
 | bin p x y ihx ihy=>show 1+ndA (qn0 x)+ndA (qn0 y)=_;rw [ihx,ihy];rfl
 | tri p x y z ihx ihy ihz=>show 1+ndA (qn0 x)+ndA (qn0 y)+ndA (qn0 z)=_;rw [ihx,ihy,ihz];rfl
theorem toks_read {s:ByteArray} {t:Ast} (h:qn2 s=.ok t):s.size≤200∧∃L ts,Lx s.data.toList L∧(tLvl 12).E ⟨L,0⟩=.ok (qn0 t) ts:=by
 unfold qn2 at h
 by_cases hs:s.size≤200
 ·rw [if_pos hs] at h
  refine ⟨hs, ?_⟩
  obtain ⟨L,hL⟩:=vm7 _ s.data.toList (Nat.le_refl _)
  have hst:Str s (j3 s st0) L:=vh9 hL st0 (Nat.zero_le _) (List.drop_zero)
  have hfi:=qa7 s st0 (Nat.zero_le _)
  have hsim:=(jc8 s 12).E (j3 s st0) ⟨L,0⟩ hfi hst rfl
  rcases hsim.cases with ⟨t1,st,ts,e1,e2,e3,e4,e5⟩|⟨en,pl,e1,e2⟩
  ·rw [e1] at h
   change vx2 t1 st=_ at h
   unfold vx2 at h
   by_cases hk:st.tk.kind=0
   ·rw [if_pos hk] at h
    cases hc:chkR (qa4 t1) with
    | some q=>rw [hc] at h;cases h
    | none=>
     rw [hc] at h
     injection h with h
     subst h
     exact ⟨L,ts,hL,e2⟩
   ·rw [if_neg hk] at h;cases h
  ·rw [e1] at h;cases h
 ·rw [if_neg hs] at h;cases h
theorem vq2 {s:ByteArray} {t:Ast} (h:qn2 s=.ok t):ShA t∧ndA t≤200:=by
 obtain ⟨hs,L,ts,hL,hr⟩:=toks_read h
 obtain ⟨a,b⟩:=(nd_lvl 12).E _ _ _ hr
 have:=lx_len hL
 rw [qa5] at this
 rw [nd_erase] at b
 refine ⟨jf3 t a, ?_⟩
 show ndA t≤200
 have e:(⟨L,0⟩:TS).toks.length=L.length:=rfl
 omega
end
end Go.Proofs.YtfkcaldjphakpaaGreatDoor
