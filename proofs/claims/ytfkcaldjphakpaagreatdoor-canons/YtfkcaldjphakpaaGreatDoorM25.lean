/- The document's answer: AND, OR. The document's answer: NOT, and what stands in brackets. The document's answer: is the first operand of a test a plain name? The document's answer: a test: two sums. -/
import Derived.Test.YtfkcaldjphakpaaGreatDoorM24
import Derived.Test.YtfkcaldjphakpaaGreatDoorM06
set_option maxHeartbeats 16000000
set_option maxRecDepth 100000
namespace Go.Proofs.YtfkcaldjphakpaaGreatDoor
open Go.RowKit
section
def RowD (rb:Nat) (s:ByteArray) (w:World) (op m:Nat) (ns:List RN) (j lo:Nat) (R:Res) (f:St→Res) (ks:List Int) (v:Value) (wr:World):Prop:=
 TKept rb w wr∧((∃(n:Nat) (l:Ast) (sl:St) (new:List RN),R=qb7 s f ks n l sl∧s.size<n+sl.place∧v=.int .i64 ((ns.length+new.length - 1:Nat):Int)∧RT wr rb s (ns++new) j sl∧sl.op=op∧lo≤sl.place∧Flat l ns.length new) ∨
  ∃(en pl:Int) (i:Nat),R=.err en pl∧v=.int .i64 i∧RX wr rb s en pl op m lo)
theorem jb3 (rb:Nat) (s:ByteArray) (hs:s.size≤200) (op m:Nat) (hm:200≤m) (hm':m≤900) (f:St→Res) (hf:DReads 259 rb s op m f):DReads 214 rb s op (m+1) (qe4 s f [5]):=by
 intro w st ns j h ho
 have HF:=j4 hf
 have HC:=j4 (hf w st ns j h ho)
 obtain ⟨R,hR⟩:∃r,qe4 s f [5] st=r:=⟨_,rfl⟩
 rw [hR]
 have HR:=j4 hR
 clear hf h hR
 go_enter Tryz.func214,Tryz.ntmps214
 go_wp2_with (go_at_call 259;refine (q9 HC).mono ?_;rintro e w1 h1;have H1:Hid (∃v,e=.returned v∧RowD rb s w op (m+1) ns j st.place R f [5] v w1):=j4 (by
   obtain ⟨hk1,h1⟩:=h1
   rw [←q9 HR]
   cases hres:f st with
   | ok l0 st0=>rw [hres] at h1;obtain ⟨new,rfl,hr1,ho1,hp1,hfl⟩:=h1;exact ⟨_,rfl,hk1,.inl ⟨s.size+1,l0,st0,new,qp2 hres,by omega,rfl,hr1,ho1,hp1,hfl⟩⟩
   | err en pl=>rw [hres] at h1;obtain ⟨i,rfl,hr1⟩:=h1;exact ⟨_,rfl,hk1,.inr ⟨en,pl,i,qm0 hres,rfl,hr1.more (by omega) (Nat.le_refl _)⟩⟩);clear h1;obtain ⟨v1,rfl,h1⟩:=q9 H1;have HA1:=j4 h1;clear H1 h1)
 go_loopw [3] (fun v wr=>Hid (RowD rb s w op (m+1) ns j st.place R f [5] v wr)) (fun v wr=>meT s wr rb)
 case atStart=>exact HA1
 case round=>
  obtain ⟨hk,hc⟩:=q9 hrel
  rcases hc with ⟨n,l,sl,new,hRl,hn,rfl,hrl,hol,hpl,hfl⟩|⟨en,pl,i,hRl,rfl,hre⟩
  ·have hfine:=hrl.fine
   have hfp:=hfine.place
   have hltr:=hrl.lt
   obtain ⟨c2,c3,c4,c5,c6⟩:=hrl.ct
   have c8:=hrl.c8
   have hmu:=qw8 hrl
   obtain ⟨mm,rfl⟩:∃mm,n=mm+1:=⟨n - 1,by omega⟩
   have HRl:=j4 hrl
   have HK:=j4 hk
   have HFL:=j4 hfl
   have HMU:=j4 hmu
   clear hrl hk hfl hmu hrel HA1
   by_cases hk5:sl.tk.kind=5
   ·have hq5:(sl.tk.kind==5)=true:=by rw [hk5];rfl
    have hcon:([5]:List Int).contains sl.tk.kind=true:=by rw [hk5];rfl
    have hpp:=hfine.step_place (by omega)
    cases hres:f (j3 s sl) with
    | ok r st2=>
     have HRR:Hid (R=qb7 s f [5] mm (vr5 sl l r) st2):=j4 (by rw [hRl,qf7 hcon (qg6 hres)])
     have HRES:=j4 hres
     clear hcon hRl hres
     go_wp2_with (first|(go_at_call 215;refine (qm7 (q9 HRl) 5 (X:=⟨#[65,78,68]⟩) rfl (by decide) (by decide) rfl).mono ?_;rintro e w' ⟨rfl,rfl⟩;rw [hq5])|(go_at_call 172;refine (qa6 (q9 HRl) hs (by omega) (by omega)).mono ?_;rintro e w2 ⟨rfl,hk2,hr2⟩;have HK2:=j4 hk2;have HR2:=j4 hr2;clear hk2 hr2)|(go_at_call 259;refine (q9 HF _ (j3 s sl) (ns++new) (j+1) (q9 HR2) hol).mono ?_;rintro e w3 ⟨hk3,h3⟩;rw [q9 HRES] at h3;obtain ⟨new3,rfl,hr3,ho3,hp3,hfl3⟩:=h3;have HFL3:=j4 hfl3;clear hfl3;have HK3:=j4 hk3;have HR3:=j4 hr3;clear hk3 hr3)|(go_at_call 216;refine (qs6 (q9 HR3) hs ⟨qw9 sl.tk.kind,sl.place,0,[],[],[]⟩ (ns.length+new.length - 1) (ns.length+new.length+new3.length - 1) (by rw [hk5];rfl) rfl rfl rfl (by simp)).mono ?_;rintro e w4 ⟨rfl,hk4,hr4⟩;have hf4:=hr4.fine.place;have HMU4:=j4 (qw8 hr4);have HK4:=j4 hk4;have HR4:=j4 hr4;clear hk4 hr4))
     go_roundw
     case rel=>
      refine j4 ⟨(((q9 HK).trans (q9 HK2)).trans (q9 HK3)).trans (q9 HK4),.inl ⟨mm,_,st2,new++new3++[qj5 ⟨qw9 sl.tk.kind,sl.place,0,[],[],[]⟩ [ns.length+new.length - 1,ns.length+new.length+new3.length - 1] false],q9 HRR,by omega,vj4 (by simp;omega), ?_,ho3,by omega,Flat.bin _ (q9 HFL) (by have:=q9 HFL3;rwa [List.length_append] at this)⟩⟩
      have:=q9 HR4
      simpa only [List.append_assoc] using this
     case measure=>rw [q9 HMU,q9 HMU4];omega
    | err en pl=>
     have HRR:Hid (R=.err en pl):=j4 (by rw [hRl,qh3 hcon (qf2 hres)])
     have HRES:=j4 hres
     clear hcon hRl hres
     go_wp2_with (first|(go_at_call 215;refine (qm7 (q9 HRl) 5 (X:=⟨#[65,78,68]⟩) rfl (by decide) (by decide) rfl).mono ?_;rintro e w' ⟨rfl,rfl⟩;rw [hq5])|(go_at_call 172;refine (qa6 (q9 HRl) hs (by omega) (by omega)).mono ?_;rintro e w2 ⟨rfl,hk2,hr2⟩;have HK2:=j4 hk2;have HR2:=j4 hr2;clear hk2 hr2)|(go_at_call 259;refine (q9 HF _ (j3 s sl) (ns++new) (j+1) (q9 HR2) hol).mono ?_;rintro e w3 ⟨hk3,h3⟩;rw [q9 HRES] at h3;obtain ⟨i3,rfl,hr3⟩:=h3;have HK3:=j4 hk3;have HR3:=j4 hr3;clear hk3 hr3)|(go_at_call 216;refine (vg9 (q9 HR3) (by omega) [65,78,68] sl.place (ns.length+new.length - 1) i3 rfl (by simp)).mono ?_;rintro e w4 ⟨i4,rfl,hk4,hr4⟩;have HMU4:=j4 (meT_rx hr4 hpp (by omega));have HK4:=j4 hk4;have HR4:=j4 hr4;clear hk4 hr4))
     go_roundw
     case rel=>exact j4 ⟨(((q9 HK).trans (q9 HK2)).trans (q9 HK3)).trans (q9 HK4),.inr ⟨en,pl,i4,q9 HRR,rfl,(q9 HR4).more (Nat.le_refl _) (by omega)⟩⟩
     case measure=>rw [q9 HMU];exact q9 HMU4
   ·have nq5:¬sl.tk.kind=5:=hk5
    have hq5:(sl.tk.kind==5)=false:=beq_eq_false_iff_ne.2 hk5
    have hcon:([5]:List Int).contains sl.tk.kind=false:=by simp [nq5]
    have HRR:Hid (R=.ok l sl):=j4 (by rw [hRl,qi2 hcon])
    clear hcon hRl
    go_wp2_with (first|(go_at_call 215;refine (qm7 (q9 HRl) 5 (X:=⟨#[65,78,68]⟩) rfl (by decide) (by decide) rfl).mono ?_;rintro e w' ⟨rfl,rfl⟩;rw [hq5]))
    go_ret
    rw [q9 HRR]
    exact ⟨q9 HK,new,rfl,q9 HRl,hol,hpl,q9 HFL⟩
  ·have HK:=j4 hk
   rcases hre with hre|⟨he2,hre⟩
   ·obtain ⟨c8,hen⟩:=hre.c8
    have HRe:=j4 hre
    clear hre hk hrel HA1
    go_wp2_with fail
    go_ret
    rw [hRl]
    exact ⟨q9 HK,i,rfl,.inl (q9 HRe)⟩
   ·have c8:=hre.c8
    have HRe:=j4 hre
    clear hre hk hrel HA1
    go_wp2_with (go_at_call 215;refine ((q9 HRe).is 5 (X:=⟨#[65,78,68]⟩) rfl (by decide) (by decide) rfl (by decide) (by decide)).mono ?_;rintro e w' ⟨rfl,hw'⟩;subst w')
    go_ret
    rw [hRl]
    exact ⟨q9 HK,i,rfl,.inr ⟨he2,q9 HRe⟩⟩
theorem vp5 (rb:Nat) (s:ByteArray) (hs:s.size≤200) (op m:Nat) (hm:200≤m) (hm':m≤900) (f:St→Res) (hf:DReads 214 rb s op m f):DReads 173 rb s op (m+1) (qe4 s f [6]):=by
 intro w st ns j h ho
 have HF:=j4 hf
 have HC:=j4 (hf w st ns j h ho)
 obtain ⟨R,hR⟩:∃r,qe4 s f [6] st=r:=⟨_,rfl⟩
 rw [hR]
 have HR:=j4 hR
 clear hf h hR
 go_enter Tryz.func173,Tryz.ntmps173
 go_wp2_with (go_at_call 214;refine (q9 HC).mono ?_;rintro e w1 h1;have H1:Hid (∃v,e=.returned v∧RowD rb s w op (m+1) ns j st.place R f [6] v w1):=j4 (by
   obtain ⟨hk1,h1⟩:=h1
   rw [←q9 HR]
   cases hres:f st with
   | ok l0 st0=>rw [hres] at h1;obtain ⟨new,rfl,hr1,ho1,hp1,hfl⟩:=h1;exact ⟨_,rfl,hk1,.inl ⟨s.size+1,l0,st0,new,qp2 hres,by omega,rfl,hr1,ho1,hp1,hfl⟩⟩
   | err en pl=>rw [hres] at h1;obtain ⟨i,rfl,hr1⟩:=h1;exact ⟨_,rfl,hk1,.inr ⟨en,pl,i,qm0 hres,rfl,hr1.more (by omega) (Nat.le_refl _)⟩⟩);clear h1;obtain ⟨v1,rfl,h1⟩:=q9 H1;have HA1:=j4 h1;clear H1 h1)
 go_loopw [3] (fun v wr=>Hid (RowD rb s w op (m+1) ns j st.place R f [6] v wr)) (fun v wr=>meT s wr rb)
 case atStart=>exact HA1
 case round=>
  obtain ⟨hk,hc⟩:=q9 hrel
  rcases hc with ⟨n,l,sl,new,hRl,hn,rfl,hrl,hol,hpl,hfl⟩|⟨en,pl,i,hRl,rfl,hre⟩
  ·have hfine:=hrl.fine
   have hfp:=hfine.place
   have hltr:=hrl.lt
   obtain ⟨c2,c3,c4,c5,c6⟩:=hrl.ct
   have c8:=hrl.c8
   have hmu:=qw8 hrl
   obtain ⟨mm,rfl⟩:∃mm,n=mm+1:=⟨n - 1,by omega⟩
   have HRl:=j4 hrl
   have HK:=j4 hk
   have HFL:=j4 hfl
   have HMU:=j4 hmu
   clear hrl hk hfl hmu hrel HA1
   by_cases hk6:sl.tk.kind=6
   ·have hq6:(sl.tk.kind==6)=true:=by rw [hk6];rfl
    have hcon:([6]:List Int).contains sl.tk.kind=true:=by rw [hk6];rfl
    have hpp:=hfine.step_place (by omega)
    cases hres:f (j3 s sl) with
    | ok r st2=>
     have HRR:Hid (R=qb7 s f [6] mm (vr5 sl l r) st2):=j4 (by rw [hRl,qf7 hcon (qg6 hres)])
     have HRES:=j4 hres
     clear hcon hRl hres
     go_wp2_with (first|(go_at_call 215;refine (qm7 (q9 HRl) 6 (X:=⟨#[79,82]⟩) rfl (by decide) (by decide) rfl).mono ?_;rintro e w' ⟨rfl,rfl⟩;rw [hq6])|(go_at_call 172;refine (qa6 (q9 HRl) hs (by omega) (by omega)).mono ?_;rintro e w2 ⟨rfl,hk2,hr2⟩;have HK2:=j4 hk2;have HR2:=j4 hr2;clear hk2 hr2)|(go_at_call 214;refine (q9 HF _ (j3 s sl) (ns++new) (j+1) (q9 HR2) hol).mono ?_;rintro e w3 ⟨hk3,h3⟩;rw [q9 HRES] at h3;obtain ⟨new3,rfl,hr3,ho3,hp3,hfl3⟩:=h3;have HFL3:=j4 hfl3;clear hfl3;have HK3:=j4 hk3;have HR3:=j4 hr3;clear hk3 hr3)|(go_at_call 216;refine (qs6 (q9 HR3) hs ⟨qw9 sl.tk.kind,sl.place,0,[],[],[]⟩ (ns.length+new.length - 1) (ns.length+new.length+new3.length - 1) (by rw [hk6];rfl) rfl rfl rfl (by simp)).mono ?_;rintro e w4 ⟨rfl,hk4,hr4⟩;have hf4:=hr4.fine.place;have HMU4:=j4 (qw8 hr4);have HK4:=j4 hk4;have HR4:=j4 hr4;clear hk4 hr4))
     go_roundw
     case rel=>
      refine j4 ⟨(((q9 HK).trans (q9 HK2)).trans (q9 HK3)).trans (q9 HK4),.inl ⟨mm,_,st2,new++new3++[qj5 ⟨qw9 sl.tk.kind,sl.place,0,[],[],[]⟩ [ns.length+new.length - 1,ns.length+new.length+new3.length - 1] false],q9 HRR,by omega,vj4 (by simp;omega), ?_,ho3,by omega,Flat.bin _ (q9 HFL) (by have:=q9 HFL3;rwa [List.length_append] at this)⟩⟩
      have:=q9 HR4
      simpa only [List.append_assoc] using this
     case measure=>rw [q9 HMU,q9 HMU4];omega
    | err en pl=>
     have HRR:Hid (R=.err en pl):=j4 (by rw [hRl,qh3 hcon (qf2 hres)])
     have HRES:=j4 hres
     clear hcon hRl hres
     go_wp2_with (first|(go_at_call 215;refine (qm7 (q9 HRl) 6 (X:=⟨#[79,82]⟩) rfl (by decide) (by decide) rfl).mono ?_;rintro e w' ⟨rfl,rfl⟩;rw [hq6])|(go_at_call 172;refine (qa6 (q9 HRl) hs (by omega) (by omega)).mono ?_;rintro e w2 ⟨rfl,hk2,hr2⟩;have HK2:=j4 hk2;have HR2:=j4 hr2;clear hk2 hr2)|(go_at_call 214;refine (q9 HF _ (j3 s sl) (ns++new) (j+1) (q9 HR2) hol).mono ?_;rintro e w3 ⟨hk3,h3⟩;rw [q9 HRES] at h3;obtain ⟨i3,rfl,hr3⟩:=h3;have HK3:=j4 hk3;have HR3:=j4 hr3;clear hk3 hr3)|(go_at_call 216;refine (vg9 (q9 HR3) (by omega) [79,82] sl.place (ns.length+new.length - 1) i3 rfl (by simp)).mono ?_;rintro e w4 ⟨i4,rfl,hk4,hr4⟩;have HMU4:=j4 (meT_rx hr4 hpp (by omega));have HK4:=j4 hk4;have HR4:=j4 hr4;clear hk4 hr4))
     go_roundw
     case rel=>exact j4 ⟨(((q9 HK).trans (q9 HK2)).trans (q9 HK3)).trans (q9 HK4),.inr ⟨en,pl,i4,q9 HRR,rfl,(q9 HR4).more (Nat.le_refl _) (by omega)⟩⟩
     case measure=>rw [q9 HMU];exact q9 HMU4
   ·have nq6:¬sl.tk.kind=6:=hk6
    have hq6:(sl.tk.kind==6)=false:=beq_eq_false_iff_ne.2 hk6
    have hcon:([6]:List Int).contains sl.tk.kind=false:=by simp [nq6]
    have HRR:Hid (R=.ok l sl):=j4 (by rw [hRl,qi2 hcon])
    clear hcon hRl
    go_wp2_with (first|(go_at_call 215;refine (qm7 (q9 HRl) 6 (X:=⟨#[79,82]⟩) rfl (by decide) (by decide) rfl).mono ?_;rintro e w' ⟨rfl,rfl⟩;rw [hq6]))
    go_ret
    rw [q9 HRR]
    exact ⟨q9 HK,new,rfl,q9 HRl,hol,hpl,q9 HFL⟩
  ·have HK:=j4 hk
   rcases hre with hre|⟨he2,hre⟩
   ·obtain ⟨c8,hen⟩:=hre.c8
    have HRe:=j4 hre
    clear hre hk hrel HA1
    go_wp2_with fail
    go_ret
    rw [hRl]
    exact ⟨q9 HK,i,rfl,.inl (q9 HRe)⟩
   ·have c8:=hre.c8
    have HRe:=j4 hre
    clear hre hk hrel HA1
    go_wp2_with (go_at_call 215;refine ((q9 HRe).is 6 (X:=⟨#[79,82]⟩) rfl (by decide) (by decide) rfl (by decide) (by decide)).mono ?_;rintro e w' ⟨rfl,hw'⟩;subst w')
    go_ret
    rw [hRl]
    exact ⟨q9 HK,i,rfl,.inr ⟨he2,q9 HRe⟩⟩
end
section
theorem jk8 (rb:Nat) (s:ByteArray) (hs:s.size≤200) (op m:Nat) (hm:200≤m) (hop:op≤12) (fE:St→Res) (hE:op<12→DReads 173 rb s (op+1) m fE) (eE:qn9 173 rb s) (w:World) (st:St) (ns:List RN) (j:Nat) (h:RT w rb s ns j st) (ho:st.op=op) (hk:st.tk.kind=26) :
  Calls Tryz.prog 351 #[.pointer (some ⟨rb,0,none⟩)] w (REnds rb s w op (m+1) ns j st.place (qd5 s fE st)):=by
 obtain ⟨c2,c3,c4,c5,c6⟩:=h.ct
 have c8:=h.c8
 have hlt:=h.lt
 have n0:¬w.heap.size=rb:=by omega
 have n1:¬rb=w.heap.size:=by omega
 rw [show rK st.tk.kind=5 by rw [hk];rfl] at c2
 rw [show tkZ st=(st.after:Int) by unfold tkZ;rw [if_neg (by omega)]] at c4
 rw [show BS (tkS st)=⟨#[40]⟩ by unfold tkS rS;rw [if_neg (by omega),if_neg (by omega),hk];rfl] at c5
 rw [show tkN st=st.tk.num by unfold tkN;rw [if_neg (by omega)]] at c6
 have hfr:=h.fresh (.cells #[.int .i64 5,.int .i64 st.place,.int .i64 st.after,.string ⟨#[40]⟩,.int .i64 st.tk.num] 235)
 have h':=h.alloc (.cells #[.int .i64 5,.int .i64 st.place,.int .i64 st.after,.string ⟨#[40]⟩,.int .i64 st.tk.num] 235)
 have hpl:=h.fine.step_place (by omega)
 have FR:=j4 hfr
 have H':=j4 h'
 have HE:=j4 hE
 have EE:=j4 eE
 clear h hfr h' hE eE
 by_cases h12:st.op=12
 ·rw [vm5 h12]
  go_enter Tryz.func351,Tryz.ntmps351
  go_wp2_with (first|(go_at_call 295;refine (qz3 (q9 H') hs (by omega)).mono ?_;rintro e w1 ⟨rfl,hk1,hr1⟩;obtain ⟨hc,hf,_,hno,hL⟩:=hk1.mine (by simp) (q9 FR);have p3:w1.cell? ⟨w.heap.size,3,none⟩=some (.string ⟨#[40]⟩):=(hc 3).trans (by simp);have HK1:=j4 (qf6 hlt hk1);have HR1:=j4 hr1;clear hk1 hr1 hc hf hno)|(go_at_call 173;refine (q9 EE _ _ _ _ _ (q9 HR1)).mono ?_;rintro e w2 ⟨i,rfl,hk2,hr2⟩;have HK2:=j4 hk2;have HR2:=j4 hr2;clear hk2 hr2)|(go_at_call 343;refine (vp7 (q9 HR2) (by decide)).mono ?_;rintro e w3 ⟨rfl,hk3,hr3⟩;have hlt3:=hr3.lt;obtain ⟨d7,dz⟩:=hr3.c7;have HK3:=j4 hk3;have HR3:=j4 hr3;clear hk3 hr3))
  go_ret
  refine ⟨(((q9 HK1).trans (q9 HK2)).trans (q9 HK3)).trans ((q9 HR3).setOp 12 12 rfl).2,i,rfl, ?_⟩
  rw [←ho,h12]
  exact ((q9 HR3).setOp 12 12 rfl).1.more (by omega)
 have hlt12:st.op<12:=by omega
 cases hf:fE (qk8 s st) with
 | ok x st'=>
  have HF:=j4 hf
  by_cases hk7:st'.tk.kind=27
  ·rw [vz9 hlt12 hf hk7]
   clear hf
   go_enter Tryz.func351,Tryz.ntmps351
   go_wp2_with (first|(go_at_call 295;refine (qm6 (q9 H') hs (by omega) (by omega) (by omega)).mono ?_;rintro e w1 ⟨rfl,hk1,hr1⟩;obtain ⟨hc,hf,_,hno,hL⟩:=hk1.mine (by simp) (q9 FR);have p3:w1.cell? ⟨w.heap.size,3,none⟩=some (.string ⟨#[40]⟩):=(hc 3).trans (by simp);have HK1:=j4 (qf6 hlt hk1);have HR1:=j4 hr1;clear hk1 hr1 hc hf hno)|(go_at_call 173;refine (q9 HE (by omega) _ (qk8 s st) ns (j+1) (q9 HR1) (by show st.op+1=op+1;omega)).mono ?_;rintro e w2 ⟨hk2,h2⟩;rw [q9 HF] at h2;obtain ⟨new,rfl,hr2,ho2,hp2,hfl⟩:=h2;have hq2:=hr2.fine.step_place (by omega);have HK2:=j4 hk2;have HR2:=j4 hr2;have HFL:=j4 hfl;clear hk2 hr2 hfl)|(go_at_call 343;refine (qz4 (q9 HR2) hs 27 rfl (by decide) (by decide) rfl hk7).mono ?_;rintro e w3 ⟨rfl,hk3,hr3⟩;have hlt3:=hr3.lt;obtain ⟨d7,dz⟩:=hr3.c7;have HK3:=j4 hk3;have HR3:=j4 hr3;clear hk3 hr3;rw [show (j3 s st').op=op+1 from ho2] at d7))
   go_ret
   refine ⟨(((q9 HK1).trans (q9 HK2)).trans (q9 HK3)).trans ((q9 HR3).setOp op _ (by omega)).2,new,rfl, ?_,ho, ?_,q9 HFL⟩
   ·rw [ho]
    exact ((q9 HR3).setOp op _ (by omega)).1.less (by omega)
   ·have:(qk8 s st).place≤st'.place:=hp2
    have e:(qk8 s st).place=(j3 s st).place:=rfl
    show st.place≤(j3 s st').place
    omega
  ·rw [vz8 hlt12 hf hk7]
   clear hf
   go_enter Tryz.func351,Tryz.ntmps351
   go_wp2_with (first|(go_at_call 295;refine (qm6 (q9 H') hs (by omega) (by omega) (by omega)).mono ?_;rintro e w1 ⟨rfl,hk1,hr1⟩;obtain ⟨hc,hf,_,hno,hL⟩:=hk1.mine (by simp) (q9 FR);have p3:w1.cell? ⟨w.heap.size,3,none⟩=some (.string ⟨#[40]⟩):=(hc 3).trans (by simp);have HK1:=j4 (qf6 hlt hk1);have HR1:=j4 hr1;clear hk1 hr1 hc hf hno)|(go_at_call 173;refine (q9 HE (by omega) _ (qk8 s st) ns (j+1) (q9 HR1) (by show st.op+1=op+1;omega)).mono ?_;rintro e w2 ⟨hk2,h2⟩;rw [q9 HF] at h2;obtain ⟨new,rfl,hr2,ho2,hp2,hfl⟩:=h2;have HK2:=j4 hk2;have HR2:=j4 hr2;clear hk2 hr2 hfl)|(go_at_call 343;refine (qt0 (q9 HR2) hs 27 rfl (by decide) (by decide) rfl hk7).mono ?_;rintro e w3 ⟨rfl,hk3,hr3⟩;have hlt3:=hr3.lt;obtain ⟨d7,dz⟩:=hr3.c7;have HK3:=j4 hk3;have HR3:=j4 hr3;clear hk3 hr3;rw [ho2] at d7))
   go_ret
   exact ⟨(((q9 HK1).trans (q9 HK2)).trans (q9 HK3)).trans ((q9 HR3).setOp op _ (by omega)).2,_,rfl,((q9 HR3).setOp op _ (by omega)).1.more (by omega)⟩
 | err en pl=>
  rw [vs6 hlt12 hf]
  have HF:=j4 hf
  clear hf
  go_enter Tryz.func351,Tryz.ntmps351
  go_wp2_with (first|(go_at_call 295;refine (qm6 (q9 H') hs (by omega) (by omega) (by omega)).mono ?_;rintro e w1 ⟨rfl,hk1,hr1⟩;obtain ⟨hc,hf,_,hno,hL⟩:=hk1.mine (by simp) (q9 FR);have p3:w1.cell? ⟨w.heap.size,3,none⟩=some (.string ⟨#[40]⟩):=(hc 3).trans (by simp);have HK1:=j4 (qf6 hlt hk1);have HR1:=j4 hr1;clear hk1 hr1 hc hf hno)|(go_at_call 173;refine (q9 HE (by omega) _ (qk8 s st) ns (j+1) (q9 HR1) (by show st.op+1=op+1;omega)).mono ?_;rintro e w2 ⟨hk2,h2⟩;rw [q9 HF] at h2;obtain ⟨i,rfl,hr2⟩:=h2;have HK2:=j4 hk2;have HR2:=j4 hr2;clear hk2 hr2)|(go_at_call 343;refine (rmust_rx (q9 HR2) 27 rfl (by decide) (by decide) rfl (by decide) (by decide)).mono ?_;rintro e w3 ⟨rfl,hk3,hr3⟩;have hlt3:=hr3.lt;obtain ⟨d7,dz⟩:=hr3.c7;have HK3:=j4 hk3;have HR3:=j4 hr3;clear hk3 hr3))
  go_ret
  exact ⟨(((q9 HK1).trans (q9 HK2)).trans (q9 HK3)).trans ((q9 HR3).setOp op _ (by omega)).2,_,rfl,((q9 HR3).setOp op _ (by omega)).1.more (by omega)⟩
theorem vp8 (rb:Nat) (s:ByteArray) (hs:s.size≤200) (op m:Nat) (hm:200≤m) (hm':m≤900) (hop:op≤12) (fS fE:St→Res) (hS:op<12→RReads 351 rb s (op+1) m fS) (hE:op<12→DReads 173 rb s (op+1) m fE) (eS:qn9 351 rb s) (eE:qn9 173 rb s) :
  RReads 351 rb s op (m+1) (qc6 s fS fE):=by
 intro w st ns j h ho
 unfold qc6
 split
 ·rename_i hk;exact jk6 rb s hs op m hm hm' hop fS hS eS w st ns j h ho hk
 split
 ·rename_i hk;exact jk7 rb s hs op m hm hm' hop fS hS eS w st ns j h ho hk
 split
 ·rename_i hk;exact jk8 rb s hs op m hm hop fE hE eE w st ns j h ho hk
 split
 ·rename_i hk;exact rsigned_2 rb s hs op (m+1) w st ns j h ho hk
 split
 ·rename_i hk;exact rsigned_3 rb s hs op (m+1) w st ns j h ho hk
 split
 ·rename_i hk;exact rsigned_4 rb s hs op (m+1) w st ns j h ho hk
 split
 ·rename_i hk;exact rsigned_8 rb s hs op (m+1) w st ns j h ho hk
 split
 ·rename_i hk;exact rsigned_9 rb s hs op (m+1) w st ns j h ho hk
 ·exact jk9 rb s hs op (m+1) (by omega) w st ns j h ho ⟨by assumption,by assumption,by assumption,by assumption,by assumption,by assumption,by assumption,by assumption⟩
theorem rdenied_7 (rb:Nat) (s:ByteArray) (hs:s.size≤200) (op m:Nat) (hm:200≤m) (hm':m≤900) (hop:op≤12) (fS:St→Res) (hS:op<12→DReads 259 rb s (op+1) m fS) (eS:qn9 259 rb s) (w:World) (st:St) (ns:List RN) (j:Nat) (h:RT w rb s ns j st) (ho:st.op=op) (hk:st.tk.kind=7) :
  Calls Tryz.prog 259 #[.pointer (some ⟨rb,0,none⟩)] w (DEnds rb s w op (m+1) ns j st.place (qd7 s fS 5 st)):=by
 obtain ⟨_,c3,_⟩:=h.ct
 have c8:=h.c8
 have hlt:=h.lt
 have hq7:(st.tk.kind==7)=true:=by rw [hk];rfl
 have hpl:=h.fine.step_place (by omega)
 have H:=j4 h
 have HS:=j4 hS
 have ES:=j4 eS
 clear h hS eS
 by_cases h12:st.op=12
 ·rw [qv3 h12]
  go_enter Tryz.func259,Tryz.ntmps259
  go_wp2_with (first|(go_at_call 215;refine (qm7 (q9 H) 7 (X:=⟨#[78,79,84]⟩) rfl (by decide) (by decide) rfl).mono ?_;rintro e w' ⟨rfl,hw'⟩;subst w';rw [hq7])|(go_at_call 295;refine (qz3 (q9 H) hs (by omega)).mono ?_;rintro e w1 ⟨rfl,hk1,hr1⟩;have HK1:=j4 hk1;have HR1:=j4 hr1;clear hk1 hr1)|(go_at_call 259;refine (q9 ES _ _ _ _ _ (q9 HR1)).mono ?_;rintro e w2 ⟨i,rfl,hk2,hr2⟩;have hlt2:=hr2.lt;obtain ⟨d7,dz⟩:=hr2.c7;have HK2:=j4 hk2;have HR2:=j4 hr2;clear hk2 hr2)|(go_at_call 216;refine (qr9 (((q9 HR2).setOp 12 12 rfl).1) (by omega) [78,79,84] st.place i rfl (by simp)).mono ?_;rintro e w3 ⟨i3,rfl,hk3,hr3⟩;have HK3:=j4 hk3;have HR3:=j4 hr3;clear hk3 hr3))
  go_ret
  refine ⟨((q9 HK1).trans (q9 HK2)).trans (((q9 HR2).setOp 12 12 rfl).2.trans (q9 HK3)),_,rfl, ?_⟩
  rw [←ho,h12]
  exact .inl ((q9 HR3).more (by omega))
 have hlt12:st.op<12:=by omega
 cases hf:fS (qk8 s st) with
 | ok x st'=>
  rw [vb6 hlt12 hf]
  have HF:=j4 hf
  clear hf
  go_enter Tryz.func259,Tryz.ntmps259
  go_wp2_with (first|(go_at_call 215;refine (qm7 (q9 H) 7 (X:=⟨#[78,79,84]⟩) rfl (by decide) (by decide) rfl).mono ?_;rintro e w' ⟨rfl,hw'⟩;subst w';rw [hq7])|(go_at_call 295;refine (qm6 (q9 H) hs (by omega) (by omega) (by omega)).mono ?_;rintro e w1 ⟨rfl,hk1,hr1⟩;have HK1:=j4 hk1;have HR1:=j4 hr1;clear hk1 hr1)|(go_at_call 259;refine (q9 HS (by omega) _ (qk8 s st) ns (j+1) (q9 HR1) (by show st.op+1=op+1;omega)).mono ?_;rintro e w2 ⟨hk2,h2⟩;rw [q9 HF] at h2;obtain ⟨new,rfl,hr2,ho2,hp2,hfl⟩:=h2;have hlt2:=hr2.lt;obtain ⟨d7,dz⟩:=hr2.c7;have HK2:=j4 hk2;have HR2:=j4 hr2;clear hk2 hr2;rw [ho2] at d7;have HFL:=j4 hfl;clear hfl)|(go_at_call 216;refine (jb2 (((q9 HR2).setOp op _ (by omega)).1) hs ⟨5,st.place,0,[],[],[]⟩ (ns.length+new.length - 1) rfl rfl rfl rfl (by simp)).mono ?_;rintro e w3 ⟨rfl,hk3,hr3⟩;have HK3:=j4 hk3;have HR3:=j4 hr3;clear hk3 hr3))
  go_ret
  refine ⟨((q9 HK1).trans (q9 HK2)).trans (((q9 HR2).setOp op _ (by omega)).2.trans (q9 HK3)),_,qg5 (by simp), ?_,ho, ?_,Flat.un _ (q9 HFL)⟩
  ·have:=q9 HR3
   rw [List.append_assoc] at this
   rw [ho]
   exact this
  ·have:(qk8 s st).place≤st'.place:=hp2
   have e:(qk8 s st).place=(j3 s st).place:=rfl
   show st.place≤st'.place
   omega
 | err en pl=>
  rw [qx7 hlt12 hf]
  have HF:=j4 hf
  clear hf
  go_enter Tryz.func259,Tryz.ntmps259
  go_wp2_with (first|(go_at_call 215;refine (qm7 (q9 H) 7 (X:=⟨#[78,79,84]⟩) rfl (by decide) (by decide) rfl).mono ?_;rintro e w' ⟨rfl,hw'⟩;subst w';rw [hq7])|(go_at_call 295;refine (qm6 (q9 H) hs (by omega) (by omega) (by omega)).mono ?_;rintro e w1 ⟨rfl,hk1,hr1⟩;have HK1:=j4 hk1;have HR1:=j4 hr1;clear hk1 hr1)|(go_at_call 259;refine (q9 HS (by omega) _ (qk8 s st) ns (j+1) (q9 HR1) (by show st.op+1=op+1;omega)).mono ?_;rintro e w2 ⟨hk2,h2⟩;rw [q9 HF] at h2;obtain ⟨i,rfl,hr2⟩:=h2;have hlt2:=hr2.lt;obtain ⟨d7,dz⟩:=hr2.c7;have HK2:=j4 hk2;have HR2:=j4 hr2;clear hk2 hr2)|(go_at_call 216;refine (jj4 (((q9 HR2).setOp op _ (by omega)).1) (by omega) [78,79,84] st.place i rfl (by simp)).mono ?_;rintro e w3 ⟨i3,rfl,hk3,hr3⟩;have HK3:=j4 hk3;have HR3:=j4 hr3;clear hk3 hr3))
  go_ret
  exact ⟨((q9 HK1).trans (q9 HK2)).trans (((q9 HR2).setOp op _ (by omega)).2.trans (q9 HK3)),_,rfl,(q9 HR3).more (Nat.le_refl _) (by have e:(qk8 s st).place=(j3 s st).place:=rfl;omega)⟩
theorem vp4 (rb:Nat) (s:ByteArray) (hs:s.size≤200) (op m:Nat) (hm:200≤m) (hm':m≤900) (hop:op≤12) (fD fT:St→Res) (hD:op<12→DReads 259 rb s (op+1) m fD) (eD:qn9 259 rb s) (hT:DReads 294 rb s op (m+1) fT) :
  DReads 259 rb s op (m+1) (qe1 s fD fT):=by
 intro w st ns j h ho
 unfold qe1
 split
 ·rename_i hk;exact rdenied_7 rb s hs op m hm hm' hop fD hD eD w st ns j h ho hk
 ·rename_i hk
  have hq7:(st.tk.kind==7)=false:=beq_eq_false_iff_ne.2 hk
  have HT:=j4 (hT w st ns j h ho)
  have H:=j4 h
  clear h hT hD eD
  go_enter Tryz.func259,Tryz.ntmps259
  go_wp2_with (first|(go_at_call 215;refine (qm7 (q9 H) 7 (X:=⟨#[78,79,84]⟩) rfl (by decide) (by decide) rfl).mono ?_;rintro e w' ⟨rfl,hw'⟩;subst w';rw [hq7])|(go_at_call 294;refine (q9 HT).mono ?_;rintro e w2 h2;have HX:Hid (∃v,e=.returned v):=j4 (by cases hf:fT st with|ok t st'=>rw [hf] at h2;obtain ⟨_,_,rfl,_⟩:=h2;exact ⟨_,rfl⟩|err en pl=>rw [hf] at h2;obtain ⟨_,_,rfl,_⟩:=h2;exact ⟨_,rfl⟩);have H2:=j4 h2;clear h2;obtain ⟨v,rfl⟩:=q9 HX;clear HX))
  go_ret
  exact q9 H2
end
section
theorem flat9 {α:Type} (f:α→List Value) (hf:∀a,(f a).length=9):∀(l:List α) (i:Nat) (a:α),l[i]?=some a→∀k,k<9→(l.flatMap f)[i * 9+k]?=(f a)[k]?:=by
 intro l
 induction l with
 | nil=>intro i a h;simp at h
 | cons b l ih=>
  intro i a h k hk
  rw [List.flatMap_cons]
  cases i with
  | zero=>
   simp at h;subst h
   rw [List.getElem?_append_left (by rw [hf];omega)]
   simp
  | succ i=>
   rw [List.getElem?_append_right (by rw [hf];omega),hf,show (i+1) * 9+k - 9=i * 9+k by omega]
   exact ih i a (by simpa using h) k hk
theorem NodesAt.opAt {w:World} {rb:Nat} {nv:Value} {ns:List RN} (h:NodesAt w rb nv ns) {i:Nat} {n:RN} (hi:ns[i]?=some n):∃g cap,nv=.slice (some ⟨g,0,none⟩) ns.length cap∧w.cell? ⟨g,i * 9,none⟩=some (.string (BS n.op)):=by
 obtain ⟨rs,hl,ho,hn⟩:=h
 have hlt:=(List.getElem?_eq_some_iff.1 hi).1
 have ho':=ho
 obtain ⟨hll,hx|⟨g,cap,cur,rfl,_⟩⟩:=ho
 ·omega
 ·refine ⟨g,cap,rfl, ?_⟩
  rw [ho'.cellAt (i * 9) (by omega)]
  obtain ⟨r,hr⟩:∃r,rs[i]?=some r:=⟨rs[i],List.getElem?_eq_getElem (by omega)⟩
  have hz:(ns.zip rs)[i]?=some (n,r):=by rw [List.getElem?_zip_eq_some];exact ⟨hi,hr⟩
  have:=flat9 (fun x:RN×(Value×Value)=>qv1 x.1 x.2.1 x.2.2) (fun a=>rfl) (ns.zip rs) i (n,r) hz 0 (by omega)
  rw [Nat.add_zero] at this
  rw [this]
  rfl
theorem qn1 (o:Int):(qb9 o==[110,97,109,101])=(o==0):=by
 by_cases h:o=0
 ·subst h;rfl
 ·rw [show (o==0)=false from beq_eq_false_iff_ne.2 h,beq_eq_false_iff_ne]
  by_cases hr:1≤o∧o≤22
  ·have hd:∀i:Fin 22,qb9 (1+(i.val:Int))≠[110,97,109,101]:=by decide +kernel
   have:=hd ⟨(o - 1).toNat,by omega⟩
   rwa [show (1:Int)+(((o - 1).toNat:Nat):Int)=o by omega] at this
  ·unfold qb9
   rw [if_neg h]
   iterate 22 rw [if_neg (by omega)]
   decide
theorem vs8 (l:List RN) (n:RN):(l++[n])[(l++[n]).length - 1]?=some n:=by simp
theorem Flat.last {t:Ast} {off:Nat} {l:List RN} (h:Flat t off l):∃n,l[l.length - 1]?=some n∧(n.op==[110,97,109,101])=(opA t==0):=by
 cases h with
 | leaf p=>exact ⟨_,rfl,qn1 _⟩
 | un p h=>exact ⟨_,vs8 _ _,qn1 _⟩
 | bin p h1 h2=>exact ⟨_,vs8 _ _,qn1 _⟩
 | tri p h1 h2 h3=>exact ⟨_,vs8 _ _,qn1 _⟩
 | neg1 pl q hq h=>exact ⟨_,vs8 _ _,(qn1 _).trans (by rcases hq with e|e|e<;>rw [e]<;>rfl)⟩
 | neg3 pl q hq h1 h2 h3=>exact ⟨_,vs8 _ _,(qn1 _).trans (by rw [hq];rfl)⟩
theorem RT.opAt {w:World} {rb:Nat} {s:ByteArray} {ns new:List RN} {j:Nat} {st:St} (h:RT w rb s (ns++new) j st) {l:Ast} (hfl:Flat l ns.length new) {i0:Nat} (hi0:ns.length+new.length - 1=i0) :
  ∃g cap LN N,w.cell? ⟨rb,0,none⟩=some (.slice (some ⟨g,0,none⟩) LN cap)∧i0<LN∧w.cell? ⟨g,i0 * 9,none⟩=some (.string N)∧(N.toList==[110,97,109,101])=(opA l==0):=by
 obtain ⟨nv,hT,hN,_⟩:=h
 obtain ⟨n,hn,hop⟩:=hfl.last
 have hp:=hfl.pos
 have hi:(ns++new)[i0]?=some n:=by
  rw [List.getElem?_append_right (by omega),show i0 - ns.length=new.length - 1 by omega];exact hn
 obtain ⟨g,cap,rfl,hc⟩:=hN.opAt hi
 exact ⟨g,cap,_,_,hT.c0,by simp;omega,hc,by rw [qe0];exact hop⟩
theorem rK_2 (k:Int):(rK k==2)=(k==2):=by
 rw [Bool.eq_iff_iff,beq_iff_eq,beq_iff_eq]
 unfold rK
 split
 ·rfl
 ·split<;>omega
end
section
theorem REnds.from {rb:Nat} {s:ByteArray} {w w2 w':World} {op m:Nat} {ns:List RN} {j lo lo':Nat} {r:Res} {e:Ending} (h:REnds rb s w2 op m ns j lo r e w') (hk:TKept rb w w2) (hl:lo'≤lo):REnds rb s w op m ns j lo' r e w':=by
 have h:=h.more (Nat.le_refl m) hl
 exact ⟨hk.trans h.1,h.2⟩
theorem REnds.ret {rb:Nat} {s:ByteArray} {w w':World} {op m:Nat} {ns:List RN} {j lo:Nat} {r:Res} {e:Ending} (h:REnds rb s w op m ns j lo r e w'):∃v,e=.returned v:=by
 cases r with
 | ok t st=>obtain ⟨_,_,rfl,_⟩:=h;exact ⟨_,rfl⟩
 | err en pl=>obtain ⟨_,_,rfl,_⟩:=h;exact ⟨_,rfl⟩
theorem va8 (pl:Int) (r:Res):negR false pl r=r:=by cases r<;>rfl
structure T1 (rb:Nat) (s:ByteArray) (op m:Nat) (f:St→Res) (w:World) (st:St) (ns:List RN) (j:Nat) (l:Ast) (st1:St):Prop where
 hs:s.size≤200
 m1:200≤m
 m2:m≤900
 f1:RReads 320 rb s op m f
 es:qn9 320 rb s
 rt:RT w rb s ns j st
 op:st.op=op
 res:f st=.ok l st1
theorem rtest_cmp (rb:Nat) (s:ByteArray) (op m:Nat) (f:St→Res) (w:World) (st:St) (ns:List RN) (j:Nat) (l:Ast) (st1:St) (T:T1 rb s op m f w st ns j l st1) (hk:16≤st1.tk.kind∧st1.tk.kind≤21) :
  Calls Tryz.prog 294 #[.pointer (some ⟨rb,0,none⟩)] w (DEnds rb s w op (m+1) ns j st.place (qc9 s f st1 l)):=by
 obtain ⟨hs,hm,hm',hf,eS,h,ho,hres⟩:=T
 obtain ⟨k2,_⟩:=h.ct
 have hlt:=h.lt
 have HC:=j4 (hf w st ns j h ho)
 have HF:=j4 hf
 have ES:=j4 eS
 have HRES:=j4 hres
 obtain ⟨b0,hb0⟩:∃b:Bool,(opA l==0)=b:=⟨_,rfl⟩
 have HB0:=j4 hb0
 have hcmp:decide (16≤st1.tk.kind∧st1.tk.kind≤21)=true:=decide_eq_true hk
 have hnm:BS (qb9 (qw9 st1.tk.kind))=BS (tkS st1):=by rw [opName_of (.inr (.inr ⟨hk.1,by omega⟩)),vw2 (by omega)]
 have HNM:=j4 hnm
 clear hnm
 clear h hf eS hres hb0
 cases hres2:f (j3 s st1) with
 | ok r st2=>
  rw [qg6 hres2]
  have HRES2:=j4 hres2
  clear hres2
  rcases (show (rK st.tk.kind==2)=true∨(rK st.tk.kind==2)=false by cases (rK st.tk.kind==2)<;>simp) with q2|q2
  all_goals
   go_enter Tryz.func294,Tryz.ntmps294
   go_wp2_with (first|(go_at_call 320;refine (q9 HF _ (j3 s st1) (ns++new) (j+1) (q9 HR3) ho1).mono ?_;rintro e w4 ⟨hk4,h4⟩;rw [q9 HRES2] at h4;obtain ⟨new2,he,hr4,ho4,hp4,hfl2⟩:=h4;obtain ⟨i2,hi2⟩:∃k:Nat,(ns++new).length+new2.length - 1=k:=⟨_,rfl⟩;rw [hi2] at he;subst he;have HI2:=j4 hi2;have HFL2:=j4 hfl2;clear hi2 hfl2;have hv4:=(q9 HV3).kept hk4;have x1:w4.cell? ⟨w1.heap.size,1,none⟩=some (.int .i64 st1.place):=hv4.cell 1;have x3:w4.cell? ⟨w1.heap.size,3,none⟩=some (.string (BS (tkS st1))):=hv4.cell 3;have HK4:=j4 ((q9 HK3).trans hk4);have HR4:=j4 hr4;clear hk4 hr4 hv4)|(go_at_call 320;refine (q9 HC).mono ?_;rintro e w1 ⟨hk1,h1⟩;rw [q9 HRES] at h1;obtain ⟨new,he,hr1,ho1,hp1,hfl⟩:=h1;obtain ⟨i0,hi0⟩:∃k:Nat,ns.length+new.length - 1=k:=⟨_,rfl⟩;rw [hi0] at he;subst he;obtain ⟨gN,capN,LN,N,cN0,hLN,cN,hNm⟩:=hr1.opAt hfl hi0;rw [q9 HB0] at hNm;have c8:=hr1.c8;obtain ⟨t2,t3,t4,t5,t6⟩:=hr1.ct;have hlt1:=hr1.lt;have nL:¬rb=w1.heap.size:=(by omega);have nL':¬w1.heap.size=rb:=(by omega);have hgN:gN<w1.heap.size:=World.block_lt_of_cell? w1 _ cN;have HI0:=j4 hi0;have HR1:=j4 hr1;have HK1:=j4 hk1;have HFL:=j4 hfl;clear hk1 hr1 hfl hi0)|(go_at_call 321;refine (qc3 _ _ _ _ _ _).mono ?_;rintro e w2 ⟨rfl,hb2⟩;rw [qd4 st1,hcmp];have hv0:=VN.new (q9 HR1) 235 #[.int .i64 (rK st1.tk.kind),.int .i64 st1.place,.int .i64 (tkZ st1),.string (BS (tkS st1)),.int .i64 (tkN st1)] rfl;have hr0:=(q9 HR1).alloc (.cells #[.int .i64 (rK st1.tk.kind),.int .i64 st1.place,.int .i64 (tkZ st1),.string (BS (tkS st1)),.int .i64 (tkN st1)] 235);have hkb:=TKept.of_below hb2 hr0.lt;have hv2:=hv0.kept hkb;have hr2:=hr0.below hb2;have hk2:=((q9 HK1).alloc hlt (.cells #[.int .i64 (rK st1.tk.kind),.int .i64 st1.place,.int .i64 (tkZ st1),.string (BS (tkS st1)),.int .i64 (tkN st1)] 235)).trans hkb;have hlt2:=hr2.lt;have HV2:=j4 hv2;have HR2:=j4 hr2;have HK2:=j4 hk2;clear hb2 hv0 hr0 hkb hv2 hr2 hk2)|(go_at_call 172;refine (qa6 (q9 HR2) hs (by omega) (by omega)).mono ?_;rintro e w3 ⟨rfl,hk3,hr3⟩;have hpp:=(q9 HR1).fine.step_place (by omega);have HV3:=j4 ((q9 HV2).kept hk3);have HK3:=j4 ((q9 HK2).trans hk3);have HR3:=j4 hr3;clear hk3 hr3)|(go_at_call 216;refine (qs6 (q9 HR4) hs ⟨qw9 st1.tk.kind,st1.place,0,[],[],[]⟩ i0 i2 (q9 HNM) rfl rfl rfl (by simp)).mono ?_;rintro e w5 ⟨rfl,hk5,hr5⟩;have HK5:=j4 ((q9 HK4).trans hk5);have HR5:=j4 hr5;clear hk5 hr5))
   go_ret
   refine ⟨q9 HK5,new++new2++[qj5 ⟨qw9 st1.tk.kind,st1.place,0,[],[],[]⟩ [ns.length+new.length - 1,ns.length+new.length+new2.length - 1] false],qg5 (by simp;omega), ?_,ho4,by omega,Flat.bin _ (q9 HFL) (by have:=q9 HFL2;rwa [List.length_append] at this)⟩
   have:=q9 HR5
   rw [←q9 HI0,←q9 HI2,List.length_append] at this
   simpa only [List.append_assoc] using this
 | err en pl=>
  rw [qf2 hres2]
  have HRES2:=j4 hres2
  clear hres2
  rcases (show (rK st.tk.kind==2)=true∨(rK st.tk.kind==2)=false by cases (rK st.tk.kind==2)<;>simp) with q2|q2
  all_goals
   go_enter Tryz.func294,Tryz.ntmps294
   go_wp2_with (first|(go_at_call 320;refine (q9 HF _ (j3 s st1) (ns++new) (j+1) (q9 HR3) ho1).mono ?_;rintro e w4 ⟨hk4,h4⟩;rw [q9 HRES2] at h4;obtain ⟨i2,rfl,hr4⟩:=h4;have hv4:=(q9 HV3).kept hk4;have x1:w4.cell? ⟨w1.heap.size,1,none⟩=some (.int .i64 st1.place):=hv4.cell 1;have x3:w4.cell? ⟨w1.heap.size,3,none⟩=some (.string (BS (tkS st1))):=hv4.cell 3;have HK4:=j4 ((q9 HK3).trans hk4);have HR4:=j4 hr4;clear hk4 hr4 hv4)|(go_at_call 320;refine (q9 HC).mono ?_;rintro e w1 ⟨hk1,h1⟩;rw [q9 HRES] at h1;obtain ⟨new,he,hr1,ho1,hp1,hfl⟩:=h1;obtain ⟨i0,hi0⟩:∃k:Nat,ns.length+new.length - 1=k:=⟨_,rfl⟩;rw [hi0] at he;subst he;obtain ⟨gN,capN,LN,N,cN0,hLN,cN,hNm⟩:=hr1.opAt hfl hi0;rw [q9 HB0] at hNm;have c8:=hr1.c8;obtain ⟨t2,t3,t4,t5,t6⟩:=hr1.ct;have hlt1:=hr1.lt;have nL:¬rb=w1.heap.size:=(by omega);have nL':¬w1.heap.size=rb:=(by omega);have hgN:gN<w1.heap.size:=World.block_lt_of_cell? w1 _ cN;have HI0:=j4 hi0;have HR1:=j4 hr1;have HK1:=j4 hk1;have HFL:=j4 hfl;clear hk1 hr1 hfl hi0)|(go_at_call 321;refine (qc3 _ _ _ _ _ _).mono ?_;rintro e w2 ⟨rfl,hb2⟩;rw [qd4 st1,hcmp];have hv0:=VN.new (q9 HR1) 235 #[.int .i64 (rK st1.tk.kind),.int .i64 st1.place,.int .i64 (tkZ st1),.string (BS (tkS st1)),.int .i64 (tkN st1)] rfl;have hr0:=(q9 HR1).alloc (.cells #[.int .i64 (rK st1.tk.kind),.int .i64 st1.place,.int .i64 (tkZ st1),.string (BS (tkS st1)),.int .i64 (tkN st1)] 235);have hkb:=TKept.of_below hb2 hr0.lt;have hv2:=hv0.kept hkb;have hr2:=hr0.below hb2;have hk2:=((q9 HK1).alloc hlt (.cells #[.int .i64 (rK st1.tk.kind),.int .i64 st1.place,.int .i64 (tkZ st1),.string (BS (tkS st1)),.int .i64 (tkN st1)] 235)).trans hkb;have hlt2:=hr2.lt;have HV2:=j4 hv2;have HR2:=j4 hr2;have HK2:=j4 hk2;clear hb2 hv0 hr0 hkb hv2 hr2 hk2)|(go_at_call 172;refine (qa6 (q9 HR2) hs (by omega) (by omega)).mono ?_;rintro e w3 ⟨rfl,hk3,hr3⟩;have hpp:=(q9 HR1).fine.step_place (by omega);have HV3:=j4 ((q9 HV2).kept hk3);have HK3:=j4 ((q9 HK2).trans hk3);have HR3:=j4 hr3;clear hk3 hr3)|(go_at_call 216;refine (qq5 (q9 HR4) (by omega) (tkS st1) st1.place i0 i2 rfl (by simp)).mono ?_;rintro e w5 ⟨i5,rfl,hk5,hr5⟩;have HK5:=j4 ((q9 HK4).trans hk5);have HR5:=j4 hr5;clear hk5 hr5))
   go_ret
   exact ⟨q9 HK5,i5,rfl,.inl (q9 HR5)⟩
end
end Go.Proofs.YtfkcaldjphakpaaGreatDoor
