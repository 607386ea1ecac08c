/- The document's answer: AND, OR. -/
import Derived.Test.YtfkcaldjphakpaaGreatDoorE18
set_option maxHeartbeats 4000000
set_option maxRecDepth 100000
namespace Go.Proofs.YtfkcaldjphakpaaGreatDoor
open Go.RowKit
def RowD (rb:Nat) (s:ByteArray) (w:World) (op m:Nat) (ns:List RN) (j lo:Nat) (R:Res) (f:St→Res) (ks:List Int) (v:Value) (wr:World):Prop:=
 TKept rb w wr∧((∃(n:Nat) (l:Ast) (sl:St) (new:List RN),R=qa7 s f ks n l sl∧s.size<n+sl.place∧v=.int .i64 ((ns.length+new.length - 1:Nat):Int)∧RT wr rb s (ns++new) j sl∧sl.op=op∧lo≤sl.place∧Flat l ns.length new) ∨
  ∃(en pl:Int) (i:Nat),R=.err en pl∧v=.int .i64 i∧RX wr rb s en pl op m lo)
theorem vw7 (rb:Nat) (s:ByteArray) (hs:s.size≤200) (op m:Nat) (hm:200≤m) (hm':m≤900) (f:St→Res) (hf:DReads 259 rb s op m f):DReads 214 rb s op (m+1) (qe2 s f [5]):=by
 intro w st ns j h ho
 have HF:=v7 hf
 have HC:=v7 (hf w st ns j h ho)
 obtain ⟨R,hR⟩:∃r,qe2 s f [5] st=r:=⟨_,rfl⟩
 rw [hR]
 have HR:=v7 hR
 clear hf h hR
 go_enter Tryz.func214,Tryz.ntmps214
 go_wp2_with (go_at_call 259;refine (q9 HC).mono ?_;rintro e w1 h1;have H1:Hid (∃v,e=.returned v∧RowD rb s w op (m+1) ns j st.place R f [5] v w1):=v7 (by
   obtain ⟨hk1,h1⟩:=h1
   rw [←q9 HR]
   cases hres:f st with
   | ok l0 st0=>rw [hres] at h1;obtain ⟨new,rfl,hr1,ho1,hp1,hfl⟩:=h1;exact ⟨_,rfl,hk1,.inl ⟨s.size+1,l0,st0,new,qm4 hres,by omega,rfl,hr1,ho1,hp1,hfl⟩⟩
   | err en pl=>rw [hres] at h1;obtain ⟨i,rfl,hr1⟩:=h1;exact ⟨_,rfl,hk1,.inr ⟨en,pl,i,qj4 hres,rfl,hr1.more (by omega) (Nat.le_refl _)⟩⟩);clear h1;obtain ⟨v1,rfl,h1⟩:=q9 H1;have HA1:=v7 h1;clear H1 h1)
 go_loopw [3] (fun v wr=>Hid (RowD rb s w op (m+1) ns j st.place R f [5] v wr)) (fun v wr=>meT s wr rb)
 case atStart=>exact HA1
 case round=>
  obtain ⟨hk,hc⟩:=q9 hrel
  rcases hc with ⟨n,l,sl,new,hRl,hn,rfl,hrl,hol,hpl,hfl⟩|⟨en,pl,i,hRl,rfl,hre⟩
  ·have hfine:=hrl.fine
   have hfp:=hfine.place
   have hltr:=hrl.lt
   obtain ⟨c2,c3,c4,c5,c6⟩:=hrl.ct
   have c8:=hrl.c8
   have hmu:=qu7 hrl
   obtain ⟨mm,rfl⟩:∃mm,n=mm+1:=⟨n - 1,by omega⟩
   have HRl:=v7 hrl
   have HK:=v7 hk
   have HFL:=v7 hfl
   have HMU:=v7 hmu
   clear hrl hk hfl hmu hrel HA1
   by_cases hk5:sl.tk.kind=5
   ·have hq5:(sl.tk.kind==5)=true:=by rw [hk5];rfl
    have hcon:([5]:List Int).contains sl.tk.kind=true:=by rw [hk5];rfl
    have hpp:=hfine.step_place (by omega)
    cases hres:f (v6 s sl) with
    | ok r st2=>
     have HRR:Hid (R=qa7 s f [5] mm (vm6 sl l r) st2):=v7 (by rw [hRl,qf1 hcon (qf8 hres)])
     have HRES:=v7 hres
     clear hcon hRl hres
     go_wp2_with (first|(go_at_call 215;refine (qk1 (q9 HRl) 5 (X:=⟨#[65,78,68]⟩) rfl (by decide) (by decide) rfl).mono ?_;rintro e w' ⟨rfl,rfl⟩;rw [hq5])|(go_at_call 172;refine (j7 (q9 HRl) hs (by omega) (by omega)).mono ?_;rintro e w2 ⟨rfl,hk2,hr2⟩;have HK2:=v7 hk2;have HR2:=v7 hr2;clear hk2 hr2)|(go_at_call 259;refine (q9 HF _ (v6 s sl) (ns++new) (j+1) (q9 HR2) hol).mono ?_;rintro e w3 ⟨hk3,h3⟩;rw [q9 HRES] at h3;obtain ⟨new3,rfl,hr3,ho3,hp3,hfl3⟩:=h3;have HFL3:=v7 hfl3;clear hfl3;have HK3:=v7 hk3;have HR3:=v7 hr3;clear hk3 hr3)|(go_at_call 216;refine (qr9 (q9 HR3) hs ⟨qu8 sl.tk.kind,sl.place,0,[],[],[]⟩ (ns.length+new.length - 1) (ns.length+new.length+new3.length - 1) (by rw [hk5];rfl) rfl rfl rfl (by simp)).mono ?_;rintro e w4 ⟨rfl,hk4,hr4⟩;have hf4:=hr4.fine.place;have HMU4:=v7 (qu7 hr4);have HK4:=v7 hk4;have HR4:=v7 hr4;clear hk4 hr4))
     go_roundw
     case rel=>
      refine v7 ⟨(((q9 HK).trans (q9 HK2)).trans (q9 HK3)).trans (q9 HK4),.inl ⟨mm,_,st2,new++new3++[qi3 ⟨qu8 sl.tk.kind,sl.place,0,[],[],[]⟩ [ns.length+new.length - 1,ns.length+new.length+new3.length - 1] false],q9 HRR,by omega,ve9 (by simp;omega), ?_,ho3,by omega,Flat.bin _ (q9 HFL) (by have:=q9 HFL3;rwa [List.length_append] at this)⟩⟩
      have:=q9 HR4
      simpa only [List.append_assoc] using this
     case measure=>rw [q9 HMU,q9 HMU4];omega
    | err en pl=>
     have HRR:Hid (R=.err en pl):=v7 (by rw [hRl,qg5 hcon (qe5 hres)])
     have HRES:=v7 hres
     clear hcon hRl hres
     go_wp2_with (first|(go_at_call 215;refine (qk1 (q9 HRl) 5 (X:=⟨#[65,78,68]⟩) rfl (by decide) (by decide) rfl).mono ?_;rintro e w' ⟨rfl,rfl⟩;rw [hq5])|(go_at_call 172;refine (j7 (q9 HRl) hs (by omega) (by omega)).mono ?_;rintro e w2 ⟨rfl,hk2,hr2⟩;have HK2:=v7 hk2;have HR2:=v7 hr2;clear hk2 hr2)|(go_at_call 259;refine (q9 HF _ (v6 s sl) (ns++new) (j+1) (q9 HR2) hol).mono ?_;rintro e w3 ⟨hk3,h3⟩;rw [q9 HRES] at h3;obtain ⟨i3,rfl,hr3⟩:=h3;have HK3:=v7 hk3;have HR3:=v7 hr3;clear hk3 hr3)|(go_at_call 216;refine (vc6 (q9 HR3) (by omega) [65,78,68] sl.place (ns.length+new.length - 1) i3 rfl (by simp)).mono ?_;rintro e w4 ⟨i4,rfl,hk4,hr4⟩;have HMU4:=v7 (meT_rx hr4 hpp (by omega));have HK4:=v7 hk4;have HR4:=v7 hr4;clear hk4 hr4))
     go_roundw
     case rel=>exact v7 ⟨(((q9 HK).trans (q9 HK2)).trans (q9 HK3)).trans (q9 HK4),.inr ⟨en,pl,i4,q9 HRR,rfl,(q9 HR4).more (Nat.le_refl _) (by omega)⟩⟩
     case measure=>rw [q9 HMU];exact q9 HMU4
   ·have nq5:¬sl.tk.kind=5:=hk5
    have hq5:(sl.tk.kind==5)=false:=beq_eq_false_iff_ne.2 hk5
    have hcon:([5]:List Int).contains sl.tk.kind=false:=by simp [nq5]
    have HRR:Hid (R=.ok l sl):=v7 (by rw [hRl,qh1 hcon])
    clear hcon hRl
    go_wp2_with (first|(go_at_call 215;refine (qk1 (q9 HRl) 5 (X:=⟨#[65,78,68]⟩) rfl (by decide) (by decide) rfl).mono ?_;rintro e w' ⟨rfl,rfl⟩;rw [hq5]))
    go_ret
    rw [q9 HRR]
    exact ⟨q9 HK,new,rfl,q9 HRl,hol,hpl,q9 HFL⟩
  ·have HK:=v7 hk
   rcases hre with hre|⟨he2,hre⟩
   ·obtain ⟨c8,hen⟩:=hre.c8
    have HRe:=v7 hre
    clear hre hk hrel HA1
    go_wp2_with fail
    go_ret
    rw [hRl]
    exact ⟨q9 HK,i,rfl,.inl (q9 HRe)⟩
   ·have c8:=hre.c8
    have HRe:=v7 hre
    clear hre hk hrel HA1
    go_wp2_with (go_at_call 215;refine ((q9 HRe).is 5 (X:=⟨#[65,78,68]⟩) rfl (by decide) (by decide) rfl (by decide) (by decide)).mono ?_;rintro e w' ⟨rfl,hw'⟩;subst w')
    go_ret
    rw [hRl]
    exact ⟨q9 HK,i,rfl,.inr ⟨he2,q9 HRe⟩⟩
theorem vj0 (rb:Nat) (s:ByteArray) (hs:s.size≤200) (op m:Nat) (hm:200≤m) (hm':m≤900) (f:St→Res) (hf:DReads 214 rb s op m f):DReads 173 rb s op (m+1) (qe2 s f [6]):=by
 intro w st ns j h ho
 have HF:=v7 hf
 have HC:=v7 (hf w st ns j h ho)
 obtain ⟨R,hR⟩:∃r,qe2 s f [6] st=r:=⟨_,rfl⟩
 rw [hR]
 have HR:=v7 hR
 clear hf h hR
 go_enter Tryz.func173,Tryz.ntmps173
 go_wp2_with (go_at_call 214;refine (q9 HC).mono ?_;rintro e w1 h1;have H1:Hid (∃v,e=.returned v∧RowD rb s w op (m+1) ns j st.place R f [6] v w1):=v7 (by
   obtain ⟨hk1,h1⟩:=h1
   rw [←q9 HR]
   cases hres:f st with
   | ok l0 st0=>rw [hres] at h1;obtain ⟨new,rfl,hr1,ho1,hp1,hfl⟩:=h1;exact ⟨_,rfl,hk1,.inl ⟨s.size+1,l0,st0,new,qm4 hres,by omega,rfl,hr1,ho1,hp1,hfl⟩⟩
   | err en pl=>rw [hres] at h1;obtain ⟨i,rfl,hr1⟩:=h1;exact ⟨_,rfl,hk1,.inr ⟨en,pl,i,qj4 hres,rfl,hr1.more (by omega) (Nat.le_refl _)⟩⟩);clear h1;obtain ⟨v1,rfl,h1⟩:=q9 H1;have HA1:=v7 h1;clear H1 h1)
 go_loopw [3] (fun v wr=>Hid (RowD rb s w op (m+1) ns j st.place R f [6] v wr)) (fun v wr=>meT s wr rb)
 case atStart=>exact HA1
 case round=>
  obtain ⟨hk,hc⟩:=q9 hrel
  rcases hc with ⟨n,l,sl,new,hRl,hn,rfl,hrl,hol,hpl,hfl⟩|⟨en,pl,i,hRl,rfl,hre⟩
  ·have hfine:=hrl.fine
   have hfp:=hfine.place
   have hltr:=hrl.lt
   obtain ⟨c2,c3,c4,c5,c6⟩:=hrl.ct
   have c8:=hrl.c8
   have hmu:=qu7 hrl
   obtain ⟨mm,rfl⟩:∃mm,n=mm+1:=⟨n - 1,by omega⟩
   have HRl:=v7 hrl
   have HK:=v7 hk
   have HFL:=v7 hfl
   have HMU:=v7 hmu
   clear hrl hk hfl hmu hrel HA1
   by_cases hk6:sl.tk.kind=6
   ·have hq6:(sl.tk.kind==6)=true:=by rw [hk6];rfl
    have hcon:([6]:List Int).contains sl.tk.kind=true:=by rw [hk6];rfl
    have hpp:=hfine.step_place (by omega)
    cases hres:f (v6 s sl) with
    | ok r st2=>
     have HRR:Hid (R=qa7 s f [6] mm (vm6 sl l r) st2):=v7 (by rw [hRl,qf1 hcon (qf8 hres)])
     have HRES:=v7 hres
     clear hcon hRl hres
     go_wp2_with (first|(go_at_call 215;refine (qk1 (q9 HRl) 6 (X:=⟨#[79,82]⟩) rfl (by decide) (by decide) rfl).mono ?_;rintro e w' ⟨rfl,rfl⟩;rw [hq6])|(go_at_call 172;refine (j7 (q9 HRl) hs (by omega) (by omega)).mono ?_;rintro e w2 ⟨rfl,hk2,hr2⟩;have HK2:=v7 hk2;have HR2:=v7 hr2;clear hk2 hr2)|(go_at_call 214;refine (q9 HF _ (v6 s sl) (ns++new) (j+1) (q9 HR2) hol).mono ?_;rintro e w3 ⟨hk3,h3⟩;rw [q9 HRES] at h3;obtain ⟨new3,rfl,hr3,ho3,hp3,hfl3⟩:=h3;have HFL3:=v7 hfl3;clear hfl3;have HK3:=v7 hk3;have HR3:=v7 hr3;clear hk3 hr3)|(go_at_call 216;refine (qr9 (q9 HR3) hs ⟨qu8 sl.tk.kind,sl.place,0,[],[],[]⟩ (ns.length+new.length - 1) (ns.length+new.length+new3.length - 1) (by rw [hk6];rfl) rfl rfl rfl (by simp)).mono ?_;rintro e w4 ⟨rfl,hk4,hr4⟩;have hf4:=hr4.fine.place;have HMU4:=v7 (qu7 hr4);have HK4:=v7 hk4;have HR4:=v7 hr4;clear hk4 hr4))
     go_roundw
     case rel=>
      refine v7 ⟨(((q9 HK).trans (q9 HK2)).trans (q9 HK3)).trans (q9 HK4),.inl ⟨mm,_,st2,new++new3++[qi3 ⟨qu8 sl.tk.kind,sl.place,0,[],[],[]⟩ [ns.length+new.length - 1,ns.length+new.length+new3.length - 1] false],q9 HRR,by omega,ve9 (by simp;omega), ?_,ho3,by omega,Flat.bin _ (q9 HFL) (by have:=q9 HFL3;rwa [List.length_append] at this)⟩⟩
      have:=q9 HR4
      simpa only [List.append_assoc] using this
     case measure=>rw [q9 HMU,q9 HMU4];omega
    | err en pl=>
     have HRR:Hid (R=.err en pl):=v7 (by rw [hRl,qg5 hcon (qe5 hres)])
     have HRES:=v7 hres
     clear hcon hRl hres
     go_wp2_with (first|(go_at_call 215;refine (qk1 (q9 HRl) 6 (X:=⟨#[79,82]⟩) rfl (by decide) (by decide) rfl).mono ?_;rintro e w' ⟨rfl,rfl⟩;rw [hq6])|(go_at_call 172;refine (j7 (q9 HRl) hs (by omega) (by omega)).mono ?_;rintro e w2 ⟨rfl,hk2,hr2⟩;have HK2:=v7 hk2;have HR2:=v7 hr2;clear hk2 hr2)|(go_at_call 214;refine (q9 HF _ (v6 s sl) (ns++new) (j+1) (q9 HR2) hol).mono ?_;rintro e w3 ⟨hk3,h3⟩;rw [q9 HRES] at h3;obtain ⟨i3,rfl,hr3⟩:=h3;have HK3:=v7 hk3;have HR3:=v7 hr3;clear hk3 hr3)|(go_at_call 216;refine (vc6 (q9 HR3) (by omega) [79,82] sl.place (ns.length+new.length - 1) i3 rfl (by simp)).mono ?_;rintro e w4 ⟨i4,rfl,hk4,hr4⟩;have HMU4:=v7 (meT_rx hr4 hpp (by omega));have HK4:=v7 hk4;have HR4:=v7 hr4;clear hk4 hr4))
     go_roundw
     case rel=>exact v7 ⟨(((q9 HK).trans (q9 HK2)).trans (q9 HK3)).trans (q9 HK4),.inr ⟨en,pl,i4,q9 HRR,rfl,(q9 HR4).more (Nat.le_refl _) (by omega)⟩⟩
     case measure=>rw [q9 HMU];exact q9 HMU4
   ·have nq6:¬sl.tk.kind=6:=hk6
    have hq6:(sl.tk.kind==6)=false:=beq_eq_false_iff_ne.2 hk6
    have hcon:([6]:List Int).contains sl.tk.kind=false:=by simp [nq6]
    have HRR:Hid (R=.ok l sl):=v7 (by rw [hRl,qh1 hcon])
    clear hcon hRl
    go_wp2_with (first|(go_at_call 215;refine (qk1 (q9 HRl) 6 (X:=⟨#[79,82]⟩) rfl (by decide) (by decide) rfl).mono ?_;rintro e w' ⟨rfl,rfl⟩;rw [hq6]))
    go_ret
    rw [q9 HRR]
    exact ⟨q9 HK,new,rfl,q9 HRl,hol,hpl,q9 HFL⟩
  ·have HK:=v7 hk
   rcases hre with hre|⟨he2,hre⟩
   ·obtain ⟨c8,hen⟩:=hre.c8
    have HRe:=v7 hre
    clear hre hk hrel HA1
    go_wp2_with fail
    go_ret
    rw [hRl]
    exact ⟨q9 HK,i,rfl,.inl (q9 HRe)⟩
   ·have c8:=hre.c8
    have HRe:=v7 hre
    clear hre hk hrel HA1
    go_wp2_with (go_at_call 215;refine ((q9 HRe).is 6 (X:=⟨#[79,82]⟩) rfl (by decide) (by decide) rfl (by decide) (by decide)).mono ?_;rintro e w' ⟨rfl,hw'⟩;subst w')
    go_ret
    rw [hRl]
    exact ⟨q9 HK,i,rfl,.inr ⟨he2,q9 HRe⟩⟩
end Go.Proofs.YtfkcaldjphakpaaGreatDoor
