/- The document's answer. -/
import Derived.Test.YtfkcaldjphakpaaGreatDoorM18
set_option maxHeartbeats 16000000
set_option maxRecDepth 100000
namespace Go.Proofs.YtfkcaldjphakpaaGreatDoor
open Go.RowKit Go.Proofs.Tryz
def RowD(rb:Nat)(s:ByteArray)(w:World)(op m:Nat)(ns:List RN)(j lo:Nat)(R:Res)(f:St->Res)(ks:List Int)(v:Value)(wr:World):Prop:=
 TKept rb w wr/\((∃(n:Nat) (l:Ast) (sl:St) (new:List RN),R=qc7 s f ks n l sl/\s.size<n+sl.place/\v=.int .i64 ((ns.length+new.length - 1:Nat):Int)/\RT wr rb s (ns++new) j sl/\sl.op=op/\lo<=sl.place/\Flat l ns.length new) \/
  ∃(en pl:Int) (i:Nat),R=.err en pl/\v=.int .i64 i/\RX wr rb s en pl op m lo)
theorem jn7(rb:Nat)(s:ByteArray)(hs:s.size<=200)(op m:Nat)(hm:200<=m)(V9:m<=900)(f:St->Res)(hf:DReads 259 rb s op m f):DReads 214 rb s op (m+1) (qf0 s f [5]):=by
 intro w st ns j h ho;have HF:=j3 hf;have HC:=j3 (hf w st ns j h ho);obtain⟨R,hR⟩:∃r,qf0 s f [5] st=r:=⟨_,rfl⟩;rw[hR];have HR:=j3 hR;clear hf h hR;go_enter func214,ntmps214
 go_wp2_with(go_at_call 259;refine(q9 HC).mono ?_;rintro e w1 h1;have H1:Hid (∃v,e=.returned v/\RowD rb s w op (m+1) ns j st.place R f [5] v w1):=j3 (by
   obtain⟨A0,h1⟩:=h1;rw[←q9 HR]
   cases A8:f st with
   | ok l0 st0=>rw[A8]at h1;obtain⟨new,rfl,A4,K8,U5,F6⟩:=h1;exact⟨_,rfl,A0,.inl ⟨s.size+1,l0,st0,new,qx3 A8,by omega,rfl,A4,K8,U5,F6⟩⟩
   | err en pl=>rw[A8]at h1;obtain⟨i,rfl,A4⟩:=h1;exact⟨_,rfl,A0,.inr ⟨en,pl,i,qs8 A8,rfl,A4.more (by omega) (Nat.le_refl _)⟩⟩);clear h1;obtain⟨v1,rfl,h1⟩:=q9 H1;have aS:=j3 h1;clear H1 h1)
 go_loopw [3] (λv wr=>Hid (RowD rb s w op (m+1) ns j st.place R f [5] v wr)) (λv wr=>meT s wr rb)
 case atStart=>exact aS
 case round=>
  obtain⟨hk,hc⟩:=q9 hrel;rcases hc with⟨n,l,sl,new,L8,hn,rfl,N7,l7,T8,F6⟩|⟨en,pl,i,L8,rfl,U3⟩
  ·have E6:=N7.fine
   have pW:=E6.place;have P6:=N7.lt;obtain⟨c2,c3,c4,c5,c6⟩:=N7.ct;have c8:=N7.c8;have dG:=qz5 N7;obtain⟨mm,rfl⟩:∃mm,n=mm+1:=⟨n - 1,by omega⟩;have Q8:=j3 N7;have HK:=j3 hk;have K0:=j3 F6;have bQ:=j3 dG;clear N7 hk F6 dG hrel aS
   by_cases M6:sl.tk.kind=5
   ·have vH:(sl.tk.kind==5)=true:=by rw[M6];rfl
    have G1:([5]:List Int).contains sl.tk.kind=true:=by rw[M6];rfl
    have jA:=E6.step_place (by omega)
    cases A8:f (j4 s sl) with
    | ok r G4=>
     have K5:Hid (R=qc7 s f [5] mm (ja4 sl l r) G4):=j3 (by rw[L8,qi9 G1 (qk3 A8)]);have D4:=j3 A8;clear G1 L8 A8
     go_wp2_with(first|(go_at_call 215;refine(qp0 (q9 Q8) 5 (X:=⟨#[65,78,68]⟩) rfl (by decide) (by decide) rfl).mono ?_;rintro e w'⟨rfl,rfl⟩;rw[vH])|(go_at_call 172;refine(qb4 (q9 Q8) hs (by omega) (by omega)).mono ?_;rintro e w2⟨rfl,A3,A5⟩;have E9:=j3 A3;have D6:=j3 A5;clear A3 A5)|(go_at_call 259;refine(q9 HF _ (j4 s sl) (ns++new) (j+1) (q9 D6) l7).mono ?_;rintro e w3⟨A9,h3⟩;rw[q9 D4]at h3;obtain⟨L1,rfl,B8,Y8,s9,Q6⟩:=h3;have a7:=j3 Q6;clear Q6;have F5:=j3 A9;have F4:=j3 B8;clear A9 B8)|(go_at_call 216;refine(qu3 (q9 F4) hs ⟨ve4 sl.tk.kind,sl.place,0,[],[],[]⟩ (ns.length+new.length - 1) (ns.length+new.length+L1.length - 1) (by rw[M6];rfl) rfl rfl rfl (by simp)).mono ?_;rintro e w4⟨rfl,D0,D9⟩;have cA:=D9.fine.place;have L5:=j3 (qz5 D9);have K6:=j3 D0;have I6:=j3 D9;clear D0 D9))
     go_roundw
     case rel=>
      refine j3 ⟨(((q9 HK).trans (q9 E9)).trans (q9 F5)).trans (q9 K6),.inl ⟨mm,_,G4,new++L1++[qi5 ⟨ve4 sl.tk.kind,sl.place,0,[],[],[]⟩ [ns.length+new.length - 1,ns.length+new.length+L1.length - 1] false],q9 K5,by omega,vr9 (by simp;omega), ?_,Y8,by omega,Flat.bin _ (q9 K0) (by have:=q9 a7;rwa [List.length_append]at this)⟩⟩;have:=q9 I6;simpa only[List.append_assoc]using this
     case measure=>rw[q9 bQ,q9 L5];omega
    | err en pl=>
     have K5:Hid (R=.err en pl):=j3 (by rw[L8,qk0 G1 (qi7 A8)]);have D4:=j3 A8;clear G1 L8 A8
     go_wp2_with(first|(go_at_call 215;refine(qp0 (q9 Q8) 5 (X:=⟨#[65,78,68]⟩) rfl (by decide) (by decide) rfl).mono ?_;rintro e w'⟨rfl,rfl⟩;rw[vH])|(go_at_call 172;refine(qb4 (q9 Q8) hs (by omega) (by omega)).mono ?_;rintro e w2⟨rfl,A3,A5⟩;have E9:=j3 A3;have D6:=j3 A5;clear A3 A5)|(go_at_call 259;refine(q9 HF _ (j4 s sl) (ns++new) (j+1) (q9 D6) l7).mono ?_;rintro e w3⟨A9,h3⟩;rw[q9 D4]at h3;obtain⟨i3,rfl,B8⟩:=h3;have F5:=j3 A9;have F4:=j3 B8;clear A9 B8)|(go_at_call 216;refine(vn8 (q9 F4) (by omega) [65,78,68] sl.place (ns.length+new.length - 1) i3 rfl (by simp)).mono ?_;rintro e w4⟨i4,rfl,D0,D9⟩;have L5:=j3 (meT_rx D9 jA (by omega));have K6:=j3 D0;have I6:=j3 D9;clear D0 D9))
     go_roundw
     case rel=>exact j3 ⟨(((q9 HK).trans (q9 E9)).trans (q9 F5)).trans (q9 K6),.inr ⟨en,pl,i4,q9 K5,rfl,(q9 I6).more (Nat.le_refl _) (by omega)⟩⟩
     case measure=>rw[q9 bQ];exact q9 L5
   ·have JT:¬sl.tk.kind=5:=M6
    have vH:(sl.tk.kind==5)=false:=beq_eq_false_iff_ne.2 M6;have G1:([5]:List Int).contains sl.tk.kind=false:=by simp[JT]
    have K5:Hid (R=.ok l sl):=j3 (by rw[L8,qp1 G1]);clear G1 L8
    go_wp2_with(first|(go_at_call 215;refine(qp0 (q9 Q8) 5 (X:=⟨#[65,78,68]⟩) rfl (by decide) (by decide) rfl).mono ?_;rintro e w'⟨rfl,rfl⟩;rw[vH]))
    go_ret;rw[q9 K5];exact⟨q9 HK,new,rfl,q9 Q8,l7,T8,q9 K0⟩
  ·have HK:=j3 hk
   rcases U3 with U3|⟨kH,U3⟩
   ·obtain⟨c8,dJ⟩:=U3.c8
    have fA:=j3 U3;clear U3 hk hrel aS
    go_wp2_with fail
    go_ret;rw[L8];exact⟨q9 HK,i,rfl,.inl (q9 fA)⟩
   ·have c8:=U3.c8
    have fA:=j3 U3;clear U3 hk hrel aS
    go_wp2_with(go_at_call 215;refine((q9 fA).is 5 (X:=⟨#[65,78,68]⟩) rfl (by decide) (by decide) rfl (by decide) (by decide)).mono ?_;rintro e w'⟨rfl,hw'⟩;subst w')
    go_ret;rw[L8];exact⟨q9 HK,i,rfl,.inr ⟨kH,q9 fA⟩⟩
theorem vx8(rb:Nat)(s:ByteArray)(hs:s.size<=200)(op m:Nat)(hm:200<=m)(V9:m<=900)(f:St->Res)(hf:DReads 214 rb s op m f):DReads 173 rb s op (m+1) (qf0 s f [6]):=by
 intro w st ns j h ho;have HF:=j3 hf;have HC:=j3 (hf w st ns j h ho);obtain⟨R,hR⟩:∃r,qf0 s f [6] st=r:=⟨_,rfl⟩;rw[hR];have HR:=j3 hR;clear hf h hR;go_enter func173,ntmps173
 go_wp2_with(go_at_call 214;refine(q9 HC).mono ?_;rintro e w1 h1;have H1:Hid (∃v,e=.returned v/\RowD rb s w op (m+1) ns j st.place R f [6] v w1):=j3 (by
   obtain⟨A0,h1⟩:=h1;rw[←q9 HR]
   cases A8:f st with
   | ok l0 st0=>rw[A8]at h1;obtain⟨new,rfl,A4,K8,U5,F6⟩:=h1;exact⟨_,rfl,A0,.inl ⟨s.size+1,l0,st0,new,qx3 A8,by omega,rfl,A4,K8,U5,F6⟩⟩
   | err en pl=>rw[A8]at h1;obtain⟨i,rfl,A4⟩:=h1;exact⟨_,rfl,A0,.inr ⟨en,pl,i,qs8 A8,rfl,A4.more (by omega) (Nat.le_refl _)⟩⟩);clear h1;obtain⟨v1,rfl,h1⟩:=q9 H1;have aS:=j3 h1;clear H1 h1)
 go_loopw [3] (λv wr=>Hid (RowD rb s w op (m+1) ns j st.place R f [6] v wr)) (λv wr=>meT s wr rb)
 case atStart=>exact aS
 case round=>
  obtain⟨hk,hc⟩:=q9 hrel;rcases hc with⟨n,l,sl,new,L8,hn,rfl,N7,l7,T8,F6⟩|⟨en,pl,i,L8,rfl,U3⟩
  ·have E6:=N7.fine
   have pW:=E6.place;have P6:=N7.lt;obtain⟨c2,c3,c4,c5,c6⟩:=N7.ct;have c8:=N7.c8;have dG:=qz5 N7;obtain⟨mm,rfl⟩:∃mm,n=mm+1:=⟨n - 1,by omega⟩;have Q8:=j3 N7;have HK:=j3 hk;have K0:=j3 F6;have bQ:=j3 dG;clear N7 hk F6 dG hrel aS
   by_cases b8:sl.tk.kind=6
   ·have vG:(sl.tk.kind==6)=true:=by rw[b8];rfl
    have G1:([6]:List Int).contains sl.tk.kind=true:=by rw[b8];rfl
    have jA:=E6.step_place (by omega)
    cases A8:f (j4 s sl) with
    | ok r G4=>
     have K5:Hid (R=qc7 s f [6] mm (ja4 sl l r) G4):=j3 (by rw[L8,qi9 G1 (qk3 A8)]);have D4:=j3 A8;clear G1 L8 A8
     go_wp2_with(first|(go_at_call 215;refine(qp0 (q9 Q8) 6 (X:=⟨#[79,82]⟩) rfl (by decide) (by decide) rfl).mono ?_;rintro e w'⟨rfl,rfl⟩;rw[vG])|(go_at_call 172;refine(qb4 (q9 Q8) hs (by omega) (by omega)).mono ?_;rintro e w2⟨rfl,A3,A5⟩;have E9:=j3 A3;have D6:=j3 A5;clear A3 A5)|(go_at_call 214;refine(q9 HF _ (j4 s sl) (ns++new) (j+1) (q9 D6) l7).mono ?_;rintro e w3⟨A9,h3⟩;rw[q9 D4]at h3;obtain⟨L1,rfl,B8,Y8,s9,Q6⟩:=h3;have a7:=j3 Q6;clear Q6;have F5:=j3 A9;have F4:=j3 B8;clear A9 B8)|(go_at_call 216;refine(qu3 (q9 F4) hs ⟨ve4 sl.tk.kind,sl.place,0,[],[],[]⟩ (ns.length+new.length - 1) (ns.length+new.length+L1.length - 1) (by rw[b8];rfl) rfl rfl rfl (by simp)).mono ?_;rintro e w4⟨rfl,D0,D9⟩;have cA:=D9.fine.place;have L5:=j3 (qz5 D9);have K6:=j3 D0;have I6:=j3 D9;clear D0 D9))
     go_roundw
     case rel=>
      refine j3 ⟨(((q9 HK).trans (q9 E9)).trans (q9 F5)).trans (q9 K6),.inl ⟨mm,_,G4,new++L1++[qi5 ⟨ve4 sl.tk.kind,sl.place,0,[],[],[]⟩ [ns.length+new.length - 1,ns.length+new.length+L1.length - 1] false],q9 K5,by omega,vr9 (by simp;omega), ?_,Y8,by omega,Flat.bin _ (q9 K0) (by have:=q9 a7;rwa [List.length_append]at this)⟩⟩;have:=q9 I6;simpa only[List.append_assoc]using this
     case measure=>rw[q9 bQ,q9 L5];omega
    | err en pl=>
     have K5:Hid (R=.err en pl):=j3 (by rw[L8,qk0 G1 (qi7 A8)]);have D4:=j3 A8;clear G1 L8 A8
     go_wp2_with(first|(go_at_call 215;refine(qp0 (q9 Q8) 6 (X:=⟨#[79,82]⟩) rfl (by decide) (by decide) rfl).mono ?_;rintro e w'⟨rfl,rfl⟩;rw[vG])|(go_at_call 172;refine(qb4 (q9 Q8) hs (by omega) (by omega)).mono ?_;rintro e w2⟨rfl,A3,A5⟩;have E9:=j3 A3;have D6:=j3 A5;clear A3 A5)|(go_at_call 214;refine(q9 HF _ (j4 s sl) (ns++new) (j+1) (q9 D6) l7).mono ?_;rintro e w3⟨A9,h3⟩;rw[q9 D4]at h3;obtain⟨i3,rfl,B8⟩:=h3;have F5:=j3 A9;have F4:=j3 B8;clear A9 B8)|(go_at_call 216;refine(vn8 (q9 F4) (by omega) [79,82] sl.place (ns.length+new.length - 1) i3 rfl (by simp)).mono ?_;rintro e w4⟨i4,rfl,D0,D9⟩;have L5:=j3 (meT_rx D9 jA (by omega));have K6:=j3 D0;have I6:=j3 D9;clear D0 D9))
     go_roundw
     case rel=>exact j3 ⟨(((q9 HK).trans (q9 E9)).trans (q9 F5)).trans (q9 K6),.inr ⟨en,pl,i4,q9 K5,rfl,(q9 I6).more (Nat.le_refl _) (by omega)⟩⟩
     case measure=>rw[q9 bQ];exact q9 L5
   ·have JS:¬sl.tk.kind=6:=b8
    have vG:(sl.tk.kind==6)=false:=beq_eq_false_iff_ne.2 b8;have G1:([6]:List Int).contains sl.tk.kind=false:=by simp[JS]
    have K5:Hid (R=.ok l sl):=j3 (by rw[L8,qp1 G1]);clear G1 L8
    go_wp2_with(first|(go_at_call 215;refine(qp0 (q9 Q8) 6 (X:=⟨#[79,82]⟩) rfl (by decide) (by decide) rfl).mono ?_;rintro e w'⟨rfl,rfl⟩;rw[vG]))
    go_ret;rw[q9 K5];exact⟨q9 HK,new,rfl,q9 Q8,l7,T8,q9 K0⟩
  ·have HK:=j3 hk
   rcases U3 with U3|⟨kH,U3⟩
   ·obtain⟨c8,dJ⟩:=U3.c8
    have fA:=j3 U3;clear U3 hk hrel aS
    go_wp2_with fail
    go_ret;rw[L8];exact⟨q9 HK,i,rfl,.inl (q9 fA)⟩
   ·have c8:=U3.c8
    have fA:=j3 U3;clear U3 hk hrel aS
    go_wp2_with(go_at_call 215;refine((q9 fA).is 6 (X:=⟨#[79,82]⟩) rfl (by decide) (by decide) rfl (by decide) (by decide)).mono ?_;rintro e w'⟨rfl,hw'⟩;subst w')
    go_ret;rw[L8];exact⟨q9 HK,i,rfl,.inr ⟨kH,q9 fA⟩⟩
theorem jy7(rb:Nat)(s:ByteArray)(hs:s.size<=200)(op m:Nat)(hm:200<=m)(H6:op<=12)(fE:St->Res)(hE:op<12->DReads 173 rb s (op+1) m fE)(eE:qn6 173 rb s)(w:World)(st:St)(ns:List RN)(j:Nat)(h:RT w rb s ns j st)(ho:st.op=op)(hk:st.tk.kind=26):
  Calls prog 351 #[.pointer (some ⟨rb,0,none⟩)] w (REnds rb s w op (m+1) ns j st.place (qd3 s fE st)):=by
 obtain⟨c2,c3,c4,c5,c6⟩:=h.ct;have c8:=h.c8;have A1:=h.lt;have n0:¬w.heap.size=rb:=by omega
 have n1:¬rb=w.heap.size:=by omega
 rw[show rK st.tk.kind=5 by rw[hk];rfl]at c2;rw[show tkZ st=(st.after:Int) by unfold tkZ;rw[if_neg (by omega)]]at c4;rw[show BS (tkS st)=⟨#[40]⟩ by unfold tkS rS;rw[if_neg (by omega),if_neg (by omega),hk];rfl]at c5;rw[show tkN st=st.tk.num by unfold tkN;rw[if_neg (by omega)]]at c6;have P9:=h.fresh (.cells #[.int .i64 5,.int .i64 st.place,.int .i64 st.after,.string ⟨#[40]⟩,.int .i64 st.tk.num] 235);have h':=h.alloc (.cells #[.int .i64 5,.int .i64 st.place,.int .i64 st.after,.string ⟨#[40]⟩,.int .i64 st.tk.num] 235);have T8:=h.fine.step_place (by omega);have FR:=j3 P9;have H':=j3 h';have HE:=j3 hE;have EE:=j3 eE;clear h P9 h' hE eE
 by_cases F9:st.op=12
 ·rw[vv2 F9]
  go_enter func351,ntmps351
  go_wp2_with(first|(go_at_call 295;refine(vc7 (q9 H') hs (by omega)).mono ?_;rintro e w1⟨rfl,A0,A4⟩;obtain⟨hc,hf,_,D7,hL⟩:=A0.mine (by simp) (q9 FR);have p3:w1.cell? ⟨w.heap.size,3,none⟩=some (.string ⟨#[40]⟩):=(hc 3).trans (by simp);have D8:=j3 (qf3 A1 A0);have D5:=j3 A4;clear A0 A4 hc hf D7)|(go_at_call 173;refine(q9 EE _ _ _ _ _ (q9 D5)).mono ?_;rintro e w2⟨i,rfl,A3,A5⟩;have E9:=j3 A3;have D6:=j3 A5;clear A3 A5)|(go_at_call 343;refine(vy0 (q9 D6) (by decide)).mono ?_;rintro e w3⟨rfl,A9,B8⟩;have cO:=B8.lt;obtain⟨d7,dz⟩:=B8.c7;have F5:=j3 A9;have F4:=j3 B8;clear A9 B8))
  go_ret;refine⟨(((q9 D8).trans (q9 E9)).trans (q9 F5)).trans ((q9 F4).setOp 12 12 rfl).2,i,rfl, ?_⟩;rw[←ho,F9];exact((q9 F4).setOp 12 12 rfl).1.more (by omega)
 have J0:st.op<12:=by omega
 cases hf:fE (qk2 s st) with
 | ok x st'=>
  have HF:=j3 hf
  by_cases V3:st'.tk.kind=27
  ·rw[jm1 J0 hf V3]
   clear hf;go_enter func351,ntmps351
   go_wp2_with(first|(go_at_call 295;refine(qm1 (q9 H') hs (by omega) (by omega) (by omega)).mono ?_;rintro e w1⟨rfl,A0,A4⟩;obtain⟨hc,hf,_,D7,hL⟩:=A0.mine (by simp) (q9 FR);have p3:w1.cell? ⟨w.heap.size,3,none⟩=some (.string ⟨#[40]⟩):=(hc 3).trans (by simp);have D8:=j3 (qf3 A1 A0);have D5:=j3 A4;clear A0 A4 hc hf D7)|(go_at_call 173;refine(q9 HE (by omega) _ (qk2 s st) ns (j+1) (q9 D5) (by show st.op+1=op+1;omega)).mono ?_;rintro e w2⟨A3,h2⟩;rw[q9 HF]at h2;obtain⟨new,rfl,A5,I2,S8,F6⟩:=h2;have iZ:=A5.fine.step_place (by omega);have E9:=j3 A3;have D6:=j3 A5;have K0:=j3 F6;clear A3 A5 F6)|(go_at_call 343;refine(vc9 (q9 D6) hs 27 rfl (by decide) (by decide) rfl V3).mono ?_;rintro e w3⟨rfl,A9,B8⟩;have cO:=B8.lt;obtain⟨d7,dz⟩:=B8.c7;have F5:=j3 A9;have F4:=j3 B8;clear A9 B8;rw[show(j4 s st').op=op+1 from I2]at d7))
   go_ret;refine⟨(((q9 D8).trans (q9 E9)).trans (q9 F5)).trans ((q9 F4).setOp op _ (by omega)).2,new,rfl, ?_,ho, ?_,q9 K0⟩
   ·rw[ho]
    exact((q9 F4).setOp op _ (by omega)).1.less (by omega)
   ·have:(qk2 s st).place<=st'.place:=S8
    have e:(qk2 s st).place=(j4 s st).place:=rfl;show st.place<=(j4 s st').place;omega
  ·rw[jm0 J0 hf V3]
   clear hf;go_enter func351,ntmps351
   go_wp2_with(first|(go_at_call 295;refine(qm1 (q9 H') hs (by omega) (by omega) (by omega)).mono ?_;rintro e w1⟨rfl,A0,A4⟩;obtain⟨hc,hf,_,D7,hL⟩:=A0.mine (by simp) (q9 FR);have p3:w1.cell? ⟨w.heap.size,3,none⟩=some (.string ⟨#[40]⟩):=(hc 3).trans (by simp);have D8:=j3 (qf3 A1 A0);have D5:=j3 A4;clear A0 A4 hc hf D7)|(go_at_call 173;refine(q9 HE (by omega) _ (qk2 s st) ns (j+1) (q9 D5) (by show st.op+1=op+1;omega)).mono ?_;rintro e w2⟨A3,h2⟩;rw[q9 HF]at h2;obtain⟨new,rfl,A5,I2,S8,F6⟩:=h2;have E9:=j3 A3;have D6:=j3 A5;clear A3 A5 F6)|(go_at_call 343;refine(qu6 (q9 D6) hs 27 rfl (by decide) (by decide) rfl V3).mono ?_;rintro e w3⟨rfl,A9,B8⟩;have cO:=B8.lt;obtain⟨d7,dz⟩:=B8.c7;have F5:=j3 A9;have F4:=j3 B8;clear A9 B8;rw[I2]at d7))
   go_ret;exact⟨(((q9 D8).trans (q9 E9)).trans (q9 F5)).trans ((q9 F4).setOp op _ (by omega)).2,_,rfl,((q9 F4).setOp op _ (by omega)).1.more (by omega)⟩
 | err en pl=>
  rw[jb9 J0 hf];have HF:=j3 hf;clear hf;go_enter func351,ntmps351
  go_wp2_with(first|(go_at_call 295;refine(qm1 (q9 H') hs (by omega) (by omega) (by omega)).mono ?_;rintro e w1⟨rfl,A0,A4⟩;obtain⟨hc,hf,_,D7,hL⟩:=A0.mine (by simp) (q9 FR);have p3:w1.cell? ⟨w.heap.size,3,none⟩=some (.string ⟨#[40]⟩):=(hc 3).trans (by simp);have D8:=j3 (qf3 A1 A0);have D5:=j3 A4;clear A0 A4 hc hf D7)|(go_at_call 173;refine(q9 HE (by omega) _ (qk2 s st) ns (j+1) (q9 D5) (by show st.op+1=op+1;omega)).mono ?_;rintro e w2⟨A3,h2⟩;rw[q9 HF]at h2;obtain⟨i,rfl,A5⟩:=h2;have E9:=j3 A3;have D6:=j3 A5;clear A3 A5)|(go_at_call 343;refine(rmust_rx (q9 D6) 27 rfl (by decide) (by decide) rfl (by decide) (by decide)).mono ?_;rintro e w3⟨rfl,A9,B8⟩;have cO:=B8.lt;obtain⟨d7,dz⟩:=B8.c7;have F5:=j3 A9;have F4:=j3 B8;clear A9 B8))
  go_ret;exact⟨(((q9 D8).trans (q9 E9)).trans (q9 F5)).trans ((q9 F4).setOp op _ (by omega)).2,_,rfl,((q9 F4).setOp op _ (by omega)).1.more (by omega)⟩
theorem vy2(rb:Nat)(s:ByteArray)(hs:s.size<=200)(op m:Nat)(hm:200<=m)(V9:m<=900)(H6:op<=12)(fS fE:St->Res)(hS:op<12->RReads 351 rb s (op+1) m fS)(hE:op<12->DReads 173 rb s (op+1) m fE)(eS:qn6 351 rb s)(eE:qn6 173 rb s):
  RReads 351 rb s op (m+1) (qc5 s fS fE):=by
 intro w st ns j h ho;unfold qc5
 split
 ·rename_i hk;exact jy5 rb s hs op m hm V9 H6 fS hS eS w st ns j h ho hk
 split
 ·rename_i hk;exact jy6 rb s hs op m hm V9 H6 fS hS eS w st ns j h ho hk
 split
 ·rename_i hk;exact jy7 rb s hs op m hm H6 fE hE eE w st ns j h ho hk
 split
 ·rename_i hk;exact rsigned_2 rb s hs op (m+1) w st ns j h ho hk
 split
 ·rename_i hk;exact rsigned_3 rb s hs op (m+1) w st ns j h ho hk
 split
 ·rename_i hk;exact rsigned_4 rb s hs op (m+1) w st ns j h ho hk
 split
 ·rename_i hk;exact rsigned_8 rb s hs op (m+1) w st ns j h ho hk
 split
 ·rename_i hk;exact rsigned_9 rb s hs op (m+1) w st ns j h ho hk
 ·exact jy8 rb s hs op (m+1) (by omega) w st ns j h ho ⟨by assumption,by assumption,by assumption,by assumption,by assumption,by assumption,by assumption,by assumption⟩
theorem rdenied_7(rb:Nat)(s:ByteArray)(hs:s.size<=200)(op m:Nat)(hm:200<=m)(V9:m<=900)(H6:op<=12)(fS:St->Res)(hS:op<12->DReads 259 rb s (op+1) m fS)(eS:qn6 259 rb s)(w:World)(st:St)(ns:List RN)(j:Nat)(h:RT w rb s ns j st)(ho:st.op=op)(hk:st.tk.kind=7):
  Calls prog 259 #[.pointer (some ⟨rb,0,none⟩)] w (DEnds rb s w op (m+1) ns j st.place (qd9 s fS 5 st)):=by
 obtain⟨_,c3,_⟩:=h.ct;have c8:=h.c8;have A1:=h.lt;have gG:(st.tk.kind==7)=true:=by rw[hk];rfl
 have T8:=h.fine.step_place (by omega);have H:=j3 h;have HS:=j3 hS;have ES:=j3 eS;clear h hS eS
 by_cases F9:st.op=12
 ·rw[qx7 F9]
  go_enter func259,ntmps259
  go_wp2_with(first|(go_at_call 215;refine(qp0 (q9 H) 7 (X:=⟨#[78,79,84]⟩) rfl (by decide) (by decide) rfl).mono ?_;rintro e w'⟨rfl,hw'⟩;subst w';rw[gG])|(go_at_call 295;refine(vc7 (q9 H) hs (by omega)).mono ?_;rintro e w1⟨rfl,A0,A4⟩;have D8:=j3 A0;have D5:=j3 A4;clear A0 A4)|(go_at_call 259;refine(q9 ES _ _ _ _ _ (q9 D5)).mono ?_;rintro e w2⟨i,rfl,A3,A5⟩;have L4:=A5.lt;obtain⟨d7,dz⟩:=A5.c7;have E9:=j3 A3;have D6:=j3 A5;clear A3 A5)|(go_at_call 216;refine(qs7 (((q9 D6).setOp 12 12 rfl).1) (by omega) [78,79,84] st.place i rfl (by simp)).mono ?_;rintro e w3⟨i3,rfl,A9,B8⟩;have F5:=j3 A9;have F4:=j3 B8;clear A9 B8))
  go_ret;refine⟨((q9 D8).trans (q9 E9)).trans (((q9 D6).setOp 12 12 rfl).2.trans (q9 F5)),_,rfl, ?_⟩;rw[←ho,F9];exact .inl ((q9 F4).more (by omega))
 have J0:st.op<12:=by omega
 cases hf:fS (qk2 s st) with
 | ok x st'=>
  rw[vf8 J0 hf];have HF:=j3 hf;clear hf;go_enter func259,ntmps259
  go_wp2_with(first|(go_at_call 215;refine(qp0 (q9 H) 7 (X:=⟨#[78,79,84]⟩) rfl (by decide) (by decide) rfl).mono ?_;rintro e w'⟨rfl,hw'⟩;subst w';rw[gG])|(go_at_call 295;refine(qm1 (q9 H) hs (by omega) (by omega) (by omega)).mono ?_;rintro e w1⟨rfl,A0,A4⟩;have D8:=j3 A0;have D5:=j3 A4;clear A0 A4)|(go_at_call 259;refine(q9 HS (by omega) _ (qk2 s st) ns (j+1) (q9 D5) (by show st.op+1=op+1;omega)).mono ?_;rintro e w2⟨A3,h2⟩;rw[q9 HF]at h2;obtain⟨new,rfl,A5,I2,S8,F6⟩:=h2;have L4:=A5.lt;obtain⟨d7,dz⟩:=A5.c7;have E9:=j3 A3;have D6:=j3 A5;clear A3 A5;rw[I2]at d7;have K0:=j3 F6;clear F6)|(go_at_call 216;refine(jn6 (((q9 D6).setOp op _ (by omega)).1) hs ⟨5,st.place,0,[],[],[]⟩ (ns.length+new.length - 1) rfl rfl rfl rfl (by simp)).mono ?_;rintro e w3⟨rfl,A9,B8⟩;have F5:=j3 A9;have F4:=j3 B8;clear A9 B8))
  go_ret;refine⟨((q9 D8).trans (q9 E9)).trans (((q9 D6).setOp op _ (by omega)).2.trans (q9 F5)),_,qg3 (by simp), ?_,ho, ?_,Flat.un _ (q9 K0)⟩
  ·have:=q9 F4
   rw[List.append_assoc]at this;rw[ho];exact this
  ·have:(qk2 s st).place<=st'.place:=S8
   have e:(qk2 s st).place=(j4 s st).place:=rfl;show st.place<=st'.place;omega
 | err en pl=>
  rw[va6 J0 hf];have HF:=j3 hf;clear hf;go_enter func259,ntmps259
  go_wp2_with(first|(go_at_call 215;refine(qp0 (q9 H) 7 (X:=⟨#[78,79,84]⟩) rfl (by decide) (by decide) rfl).mono ?_;rintro e w'⟨rfl,hw'⟩;subst w';rw[gG])|(go_at_call 295;refine(qm1 (q9 H) hs (by omega) (by omega) (by omega)).mono ?_;rintro e w1⟨rfl,A0,A4⟩;have D8:=j3 A0;have D5:=j3 A4;clear A0 A4)|(go_at_call 259;refine(q9 HS (by omega) _ (qk2 s st) ns (j+1) (q9 D5) (by show st.op+1=op+1;omega)).mono ?_;rintro e w2⟨A3,h2⟩;rw[q9 HF]at h2;obtain⟨i,rfl,A5⟩:=h2;have L4:=A5.lt;obtain⟨d7,dz⟩:=A5.c7;have E9:=j3 A3;have D6:=j3 A5;clear A3 A5)|(go_at_call 216;refine(jx6 (((q9 D6).setOp op _ (by omega)).1) (by omega) [78,79,84] st.place i rfl (by simp)).mono ?_;rintro e w3⟨i3,rfl,A9,B8⟩;have F5:=j3 A9;have F4:=j3 B8;clear A9 B8))
  go_ret;exact⟨((q9 D8).trans (q9 E9)).trans (((q9 D6).setOp op _ (by omega)).2.trans (q9 F5)),_,rfl,(q9 F4).more (Nat.le_refl _) (by have e:(qk2 s st).place=(j4 s st).place:=rfl;omega)⟩
theorem vx7(rb:Nat)(s:ByteArray)(hs:s.size<=200)(op m:Nat)(hm:200<=m)(V9:m<=900)(H6:op<=12)(fD fT:St->Res)(hD:op<12->DReads 259 rb s (op+1) m fD)(eD:qn6 259 rb s)(hT:DReads 294 rb s op (m+1) fT):
  DReads 259 rb s op (m+1) (qe0 s fD fT):=by
 intro w st ns j h ho;unfold qe0
 split
 ·rename_i hk;exact rdenied_7 rb s hs op m hm V9 H6 fD hD eD w st ns j h ho hk
 ·rename_i hk
  have gG:(st.tk.kind==7)=false:=beq_eq_false_iff_ne.2 hk;have HT:=j3 (hT w st ns j h ho);have H:=j3 h;clear h hT hD eD;go_enter func259,ntmps259
  go_wp2_with(first|(go_at_call 215;refine(qp0 (q9 H) 7 (X:=⟨#[78,79,84]⟩) rfl (by decide) (by decide) rfl).mono ?_;rintro e w'⟨rfl,hw'⟩;subst w';rw[gG])|(go_at_call 294;refine(q9 HT).mono ?_;rintro e w2 h2;have HX:Hid (∃v,e=.returned v):=j3 (by cases hf:fT st with|ok t st'=>rw[hf]at h2;obtain⟨_,_,rfl,_⟩:=h2;exact⟨_,rfl⟩|err en pl=>rw[hf]at h2;obtain⟨_,_,rfl,_⟩:=h2;exact⟨_,rfl⟩);have H2:=j3 h2;clear h2;obtain⟨v,rfl⟩:=q9 HX;clear HX))
  go_ret;exact q9 H2
theorem flat9{α:Type}(f:α->List Value)(hf:∀a,(f a).length=9):∀(l:List α) (i:Nat) (a:α),l[i]?=some a->∀k,k<9->(l.flatMap f)[i * 9+k]?=(f a)[k]?:=by
 intro l
 induction l with
 | nil=>intro i a h;simp at h
 | cons b l ih=>
  intro i a h k hk;rw[List.flatMap_cons]
  cases i with
  | zero=>
   simp at h;subst h;rw[List.getElem?_append_left (by rw[hf];omega)];simp
  | succ i=>
   rw[List.getElem?_append_right (by rw[hf];omega),hf,show(i+1) * 9+k - 9=i * 9+k by omega];exact ih i a (by simpa using h) k hk
theorem NodesAt.opAt{w:World}{rb:Nat}{nv:Value}{ns:List RN}(h:NodesAt w rb nv ns){i:Nat}{n:RN}(hi:ns[i]?=some n):∃g cap,nv=.slice (some ⟨g,0,none⟩) ns.length cap/\w.cell? ⟨g,i * 9,none⟩=some (.string (BS n.op)):=by
 obtain⟨rs,hl,ho,hn⟩:=h;have A1:=(List.getElem?_eq_some_iff.1 hi).1;have eG:=ho;obtain⟨rX,hx|⟨g,cap,cur,rfl,_⟩⟩:=ho
 ·omega
 ·refine⟨g,cap,rfl, ?_⟩
  rw[eG.cellAt (i * 9) (by omega)];obtain⟨r,hr⟩:∃r,rs[i]?=some r:=⟨rs[i],List.getElem?_eq_getElem (by omega)⟩;have hz:(ns.zip rs)[i]?=some (n,r):=by rw[List.getElem?_zip_eq_some];exact⟨hi,hr⟩
  have:=flat9 (λx:RN×(Value×Value)=>qx2 x.1 x.2.1 x.2.2) (λa=>rfl) (ns.zip rs) i (n,r) hz 0 (by omega);rw[Nat.add_zero]at this;rw[this];rfl
theorem qm7(o:Int):(qb7 o==[110,97,109,101])=(o==0):=by
 by_cases h:o=0
 ·subst h;rfl
 ·rw[show(o==0)=false from beq_eq_false_iff_ne.2 h,beq_eq_false_iff_ne]
  by_cases hr:1<=o/\o<=22
  ·have hd:∀i:Fin 22,qb7 (1+(i.val:Int))≠[110,97,109,101]:=by decide +kernel
   have:=hd ⟨(o - 1).toNat,by omega⟩;rwa [show(1:Int)+(((o - 1).toNat:Nat):Int)=o by omega]at this
  ·unfold qb7
   rw[if_neg h]
   iterate 22 rw[if_neg (by omega)]
   decide
theorem jc2(l:List RN)(n:RN):(l++[n])[(l++[n]).length - 1]?=some n:=by simp
theorem Flat.last{t:Ast}{off:Nat}{l:List RN}(h:Flat t off l):∃n,l[l.length - 1]?=some n/\(n.op==[110,97,109,101])=(opA t==0):=by
 cases h with
 | leaf p=>exact⟨_,rfl,qm7 _⟩
 | un p h=>exact⟨_,jc2 _ _,qm7 _⟩
 | bin p h1 h2=>exact⟨_,jc2 _ _,qm7 _⟩
 | tri p h1 h2 h3=>exact⟨_,jc2 _ _,qm7 _⟩
 | neg1 pl q hq h=>exact⟨_,jc2 _ _,(qm7 _).trans (by rcases hq with e|e|e<;>rw[e]<;>rfl)⟩
 | neg3 pl q hq h1 h2 h3=>exact⟨_,jc2 _ _,(qm7 _).trans (by rw[hq];rfl)⟩
theorem RT.opAt{w:World}{rb:Nat}{s:ByteArray}{ns new:List RN}{j:Nat}{st:St}(h:RT w rb s (ns++new) j st){l:Ast}(F6:Flat l ns.length new){i0:Nat}(O8:ns.length+new.length - 1=i0):
  ∃g cap LN N,w.cell? ⟨rb,0,none⟩=some (.slice (some ⟨g,0,none⟩) LN cap)/\i0<LN/\w.cell? ⟨g,i0 * 9,none⟩=some (.string N)/\(N.toList==[110,97,109,101])=(opA l==0):=by
 obtain⟨nv,hT,hN,_⟩:=h;obtain⟨n,hn,H6⟩:=F6.last;have hp:=F6.pos
 have hi:(ns++new)[i0]?=some n:=by
  rw[List.getElem?_append_right (by omega),show i0 - ns.length=new.length - 1 by omega];exact hn
 obtain⟨g,cap,rfl,hc⟩:=hN.opAt hi;exact⟨g,cap,_,_,hT.c0,by simp;omega,hc,by rw[qc9];exact H6⟩
theorem rK_2(k:Int):(rK k==2)=(k==2):=by
 rw[Bool.eq_iff_iff,beq_iff_eq,beq_iff_eq];unfold rK
 split
 ·rfl
 ·split<;>omega
theorem REnds.from{rb:Nat}{s:ByteArray}{w w2 w':World}{op m:Nat}{ns:List RN}{j lo lo':Nat}{r:Res}{e:Ending}(h:REnds rb s w2 op m ns j lo r e w')(hk:TKept rb w w2)(hl:lo'<=lo):REnds rb s w op m ns j lo' r e w':=by
 have h:=h.more (Nat.le_refl m) hl;exact⟨hk.trans h.1,h.2⟩
theorem REnds.ret{rb:Nat}{s:ByteArray}{w w':World}{op m:Nat}{ns:List RN}{j lo:Nat}{r:Res}{e:Ending}(h:REnds rb s w op m ns j lo r e w'):∃v,e=.returned v:=by
 cases r with
 | ok t st=>obtain⟨_,_,rfl,_⟩:=h;exact⟨_,rfl⟩
 | err en pl=>obtain⟨_,_,rfl,_⟩:=h;exact⟨_,rfl⟩
theorem jw5(pl:Int)(r:Res):negR false pl r=r:=by cases r<;>rfl
structure T1(rb:Nat)(s:ByteArray)(op m:Nat)(f:St->Res)(w:World)(st:St)(ns:List RN)(j:Nat)(l:Ast)(A6:St):Prop where
 hs:s.size<=200
 m1:200<=m
 m2:m<=900
 f1:RReads 320 rb s op m f
 es:qn6 320 rb s
 rt:RT w rb s ns j st
 op:st.op=op
 res:f st=.ok l A6
theorem rtest_cmp(rb:Nat)(s:ByteArray)(op m:Nat)(f:St->Res)(w:World)(st:St)(ns:List RN)(j:Nat)(l:Ast)(A6:St)(T:T1 rb s op m f w st ns j l A6)(hk:16<=A6.tk.kind/\A6.tk.kind<=21):
  Calls prog 294 #[.pointer (some ⟨rb,0,none⟩)] w (DEnds rb s w op (m+1) ns j st.place (qf1 s f A6 l)):=by
 obtain⟨hs,hm,V9,hf,eS,h,ho,A8⟩:=T;obtain⟨k2,_⟩:=h.ct;have A1:=h.lt;have HC:=j3 (hf w st ns j h ho);have HF:=j3 hf;have ES:=j3 eS;have D4:=j3 A8;obtain⟨b0,T4⟩:∃b:Bool,(opA l==0)=b:=⟨_,rfl⟩;have qP:=j3 T4;have m7:decide (16<=A6.tk.kind/\A6.tk.kind<=21)=true:=decide_eq_true hk;have EW:BS (qb7 (ve4 A6.tk.kind))=BS (tkS A6):=by rw[opName_of (.inr (.inr ⟨hk.1,by omega⟩)),jg1 (by omega)]
 have PE:=j3 EW;clear EW;clear h hf eS A8 T4
 cases hres2:f (j4 s A6) with
 | ok r G4=>
  rw[qk3 hres2];have iO:=j3 hres2;clear hres2;rcases(show(rK st.tk.kind==2)=true\/(rK st.tk.kind==2)=false by cases (rK st.tk.kind==2)<;>simp) with q2|q2
  all_goals
   go_enter func294,ntmps294
   go_wp2_with(first|(go_at_call 320;refine(q9 HF _ (j4 s A6) (ns++new) (j+1) (q9 F4) K8).mono ?_;rintro e w4⟨D0,h4⟩;rw[q9 iO]at h4;obtain⟨cH,he,D9,gK,fN,gT⟩:=h4;obtain⟨i2,yP⟩:∃k:Nat,(ns++new).length+cH.length - 1=k:=⟨_,rfl⟩;rw[yP]at he;subst he;have PJ:=j3 yP;have pD:=j3 gT;clear yP gT;have W9:=(q9 bN).kept D0;have x1:w4.cell? ⟨w1.heap.size,1,none⟩=some (.int .i64 A6.place):=W9.cell 1;have x3:w4.cell? ⟨w1.heap.size,3,none⟩=some (.string (BS (tkS A6))):=W9.cell 3;have K6:=j3 ((q9 F5).trans D0);have I6:=j3 D9;clear D0 D9 W9)|(go_at_call 320;refine(q9 HC).mono ?_;rintro e w1⟨A0,h1⟩;rw[q9 D4]at h1;obtain⟨new,he,A4,K8,U5,F6⟩:=h1;obtain⟨i0,O8⟩:∃k:Nat,ns.length+new.length - 1=k:=⟨_,rfl⟩;rw[O8]at he;subst he;obtain⟨gN,capN,LN,N,AW,fU,cN,oJ⟩:=A4.opAt F6 O8;rw[q9 qP]at oJ;have c8:=A4.c8;obtain⟨t2,t3,t4,t5,t6⟩:=A4.ct;have cP:=A4.lt;have nL:¬rb=w1.heap.size:=(by omega);have nL':¬w1.heap.size=rb:=(by omega);have jD:gN<w1.heap.size:=World.block_lt_of_cell? w1 _ cN;have Z9:=j3 O8;have D5:=j3 A4;have D8:=j3 A0;have K0:=j3 F6;clear A0 A4 F6 O8)|(go_at_call 321;refine(qp8 _ _ _ _ _ _).mono ?_;rintro e w2⟨rfl,B9⟩;rw[qt6 A6,m7];have dD:=VN.new (q9 D5) 235 #[.int .i64 (rK A6.tk.kind),.int .i64 A6.place,.int .i64 (tkZ A6),.string (BS (tkS A6)),.int .i64 (tkN A6)] rfl;have Y6:=(q9 D5).alloc (.cells #[.int .i64 (rK A6.tk.kind),.int .i64 A6.place,.int .i64 (tkZ A6),.string (BS (tkS A6)),.int .i64 (tkN A6)] 235);have Z0:=TKept.of_below B9 Y6.lt;have N6:=dD.kept Z0;have A5:=Y6.below B9;have A3:=((q9 D8).alloc A1 (.cells #[.int .i64 (rK A6.tk.kind),.int .i64 A6.place,.int .i64 (tkZ A6),.string (BS (tkS A6)),.int .i64 (tkN A6)] 235)).trans Z0;have L4:=A5.lt;have cY:=j3 N6;have D6:=j3 A5;have E9:=j3 A3;clear B9 dD Y6 Z0 N6 A5 A3)|(go_at_call 172;refine(qb4 (q9 D6) hs (by omega) (by omega)).mono ?_;rintro e w3⟨rfl,A9,B8⟩;have jA:=(q9 D5).fine.step_place (by omega);have bN:=j3 ((q9 cY).kept A9);have F5:=j3 ((q9 E9).trans A9);have F4:=j3 B8;clear A9 B8)|(go_at_call 216;refine(qu3 (q9 I6) hs ⟨ve4 A6.tk.kind,A6.place,0,[],[],[]⟩ i0 i2 (q9 PE) rfl rfl rfl (by simp)).mono ?_;rintro e w5⟨rfl,M6,r9⟩;have aQ:=j3 ((q9 K6).trans M6);have cF:=j3 r9;clear M6 r9))
   go_ret;refine⟨q9 aQ,new++cH++[qi5 ⟨ve4 A6.tk.kind,A6.place,0,[],[],[]⟩ [ns.length+new.length - 1,ns.length+new.length+cH.length - 1] false],qg3 (by simp;omega), ?_,gK,by omega,Flat.bin _ (q9 K0) (by have:=q9 pD;rwa [List.length_append]at this)⟩;have:=q9 cF;rw[←q9 Z9,←q9 PJ,List.length_append]at this;simpa only[List.append_assoc]using this
 | err en pl=>
  rw[qi7 hres2];have iO:=j3 hres2;clear hres2;rcases(show(rK st.tk.kind==2)=true\/(rK st.tk.kind==2)=false by cases (rK st.tk.kind==2)<;>simp) with q2|q2
  all_goals
   go_enter func294,ntmps294
   go_wp2_with(first|(go_at_call 320;refine(q9 HF _ (j4 s A6) (ns++new) (j+1) (q9 F4) K8).mono ?_;rintro e w4⟨D0,h4⟩;rw[q9 iO]at h4;obtain⟨i2,rfl,D9⟩:=h4;have W9:=(q9 bN).kept D0;have x1:w4.cell? ⟨w1.heap.size,1,none⟩=some (.int .i64 A6.place):=W9.cell 1;have x3:w4.cell? ⟨w1.heap.size,3,none⟩=some (.string (BS (tkS A6))):=W9.cell 3;have K6:=j3 ((q9 F5).trans D0);have I6:=j3 D9;clear D0 D9 W9)|(go_at_call 320;refine(q9 HC).mono ?_;rintro e w1⟨A0,h1⟩;rw[q9 D4]at h1;obtain⟨new,he,A4,K8,U5,F6⟩:=h1;obtain⟨i0,O8⟩:∃k:Nat,ns.length+new.length - 1=k:=⟨_,rfl⟩;rw[O8]at he;subst he;obtain⟨gN,capN,LN,N,AW,fU,cN,oJ⟩:=A4.opAt F6 O8;rw[q9 qP]at oJ;have c8:=A4.c8;obtain⟨t2,t3,t4,t5,t6⟩:=A4.ct;have cP:=A4.lt;have nL:¬rb=w1.heap.size:=(by omega);have nL':¬w1.heap.size=rb:=(by omega);have jD:gN<w1.heap.size:=World.block_lt_of_cell? w1 _ cN;have Z9:=j3 O8;have D5:=j3 A4;have D8:=j3 A0;have K0:=j3 F6;clear A0 A4 F6 O8)|(go_at_call 321;refine(qp8 _ _ _ _ _ _).mono ?_;rintro e w2⟨rfl,B9⟩;rw[qt6 A6,m7];have dD:=VN.new (q9 D5) 235 #[.int .i64 (rK A6.tk.kind),.int .i64 A6.place,.int .i64 (tkZ A6),.string (BS (tkS A6)),.int .i64 (tkN A6)] rfl;have Y6:=(q9 D5).alloc (.cells #[.int .i64 (rK A6.tk.kind),.int .i64 A6.place,.int .i64 (tkZ A6),.string (BS (tkS A6)),.int .i64 (tkN A6)] 235);have Z0:=TKept.of_below B9 Y6.lt;have N6:=dD.kept Z0;have A5:=Y6.below B9;have A3:=((q9 D8).alloc A1 (.cells #[.int .i64 (rK A6.tk.kind),.int .i64 A6.place,.int .i64 (tkZ A6),.string (BS (tkS A6)),.int .i64 (tkN A6)] 235)).trans Z0;have L4:=A5.lt;have cY:=j3 N6;have D6:=j3 A5;have E9:=j3 A3;clear B9 dD Y6 Z0 N6 A5 A3)|(go_at_call 172;refine(qb4 (q9 D6) hs (by omega) (by omega)).mono ?_;rintro e w3⟨rfl,A9,B8⟩;have jA:=(q9 D5).fine.step_place (by omega);have bN:=j3 ((q9 cY).kept A9);have F5:=j3 ((q9 E9).trans A9);have F4:=j3 B8;clear A9 B8)|(go_at_call 216;refine(qq8 (q9 I6) (by omega) (tkS A6) A6.place i0 i2 rfl (by simp)).mono ?_;rintro e w5⟨i5,rfl,M6,r9⟩;have aQ:=j3 ((q9 K6).trans M6);have cF:=j3 r9;clear M6 r9))
   go_ret;exact⟨q9 aQ,i5,rfl,.inl (q9 cF)⟩
end Go.Proofs.YtfkcaldjphakpaaGreatDoor
