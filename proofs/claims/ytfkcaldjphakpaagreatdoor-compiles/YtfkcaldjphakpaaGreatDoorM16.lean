/- The document's answer. -/
import Derived.Test.YtfkcaldjphakpaaGreatDoorM15
set_option maxHeartbeats 16000000
set_option maxRecDepth 100000
namespace Go.Proofs.YtfkcaldjphakpaaGreatDoor
open Go.RowKit Go.Proofs.Tryz
section
theorem jy9(rb:Nat)(s:ByteArray)(hs:s.size<=200)(op m:Nat)(hm:200<=m)(V9:m<=900)(f:St->Res)(hf:RReads 342 rb s op m f):RReads 320 rb s op (m+1) (qf0 s f [22,23]):=by
 intro w st ns j h ho;have HF:=j3 hf;have HC:=j3 (hf w st ns j h ho);obtain⟨R,hR⟩:∃r,qf0 s f [22,23] st=r:=⟨_,rfl⟩;rw[hR];have HR:=j3 hR;clear hf h hR;go_enter func320,ntmps320
 go_wp2_with(go_at_call 342;refine(q9 HC).mono ?_;rintro e w1 h1;have H1:Hid (∃v,e=.returned v/\RowAt rb s w op (m+1) ns j st.place R f [22,23] v w1):=j3 (by
   obtain⟨A0,h1⟩:=h1;rw[←q9 HR]
   cases A8:f st with
   | ok l0 st0=>rw[A8]at h1;obtain⟨new,rfl,A4,K8,U5,F6⟩:=h1;exact⟨_,rfl,A0,.inl ⟨s.size+1,l0,st0,new,qx3 A8,by omega,rfl,A4,K8,U5,F6⟩⟩
   | err en pl=>rw[A8]at h1;obtain⟨i,rfl,A4⟩:=h1;exact⟨_,rfl,A0,.inr ⟨en,pl,i,qs8 A8,rfl,A4.more (by omega)⟩⟩);clear h1;obtain⟨v1,rfl,h1⟩:=q9 H1;have aS:=j3 h1;clear H1 h1)
 go_loopw [3] (λv wr=>Hid (RowAt rb s w op (m+1) ns j st.place R f [22,23] v wr)) (λv wr=>meT s wr rb)
 case atStart=>exact aS
 case round=>
  obtain⟨hk,hc⟩:=q9 hrel;rcases hc with⟨n,l,sl,new,L8,hn,rfl,N7,l7,T8,F6⟩|⟨en,pl,i,L8,rfl,U3⟩
  ·have E6:=N7.fine
   have pW:=E6.place;have P6:=N7.lt;obtain⟨c2,c3,c4,c5,c6⟩:=N7.ct;have c8:=N7.c8;have dG:=qz5 N7;obtain⟨mm,rfl⟩:∃mm,n=mm+1:=⟨n - 1,by omega⟩;have Q8:=j3 N7;have HK:=j3 hk;have K0:=j3 F6;have bQ:=j3 dG;clear N7 hk F6 dG hrel aS
   by_cases hk22:sl.tk.kind=22
   ·have eN:(rK sl.tk.kind==5&&((BS (tkS sl)).toList==(⟨#[43]⟩:ByteArray).toList))=true:=(isK (c:=22) rfl (by decide) (by decide) 5 rfl).trans (by rw[hk22];rfl)
    have G1:([22,23]:List Int).contains sl.tk.kind=true:=by rw[hk22];rfl
    have jA:=E6.step_place (by omega);rw[show rK sl.tk.kind=5 by rw[hk22];rfl]at c2;rw[show tkZ sl=(sl.after:Int) by unfold tkZ;rw[if_neg (by omega)]]at c4;rw[show BS (tkS sl)=⟨#[43]⟩ by rw[jg1 (by omega),hk22];rfl]at c5;have P9:=(q9 Q8).fresh (.cells #[.int .i64 5,.int .i64 sl.place,.int .i64 sl.after,.string ⟨#[43]⟩,.int .i64 (tkN sl)] 235);have h':=(q9 Q8).alloc (.cells #[.int .i64 5,.int .i64 sl.place,.int .i64 sl.after,.string ⟨#[43]⟩,.int .i64 (tkN sl)] 235);have n0:¬wr.heap.size=rb:=by omega
    have n1:¬rb=wr.heap.size:=by omega
    have FR:=j3 P9;have H':=j3 h';clear P9 h'
    cases A8:f (j4 s sl) with
    | ok r G4=>
     have K5:Hid (R=qc7 s f [22,23] mm (ja4 sl l r) G4):=j3 (by rw[L8,qi9 G1 (qk3 A8)]);have D4:=j3 A8;clear G1 L8 A8
     go_wp2_with(first|(go_at_call 215;refine(va4 (q9 Q8)).mono ?_;rintro e w'⟨rfl,hw'⟩;subst w';simp only[eN])|(go_at_call 172;refine(qb4 (q9 H') hs (by omega) (by omega)).mono ?_;rintro e w2⟨rfl,A3,A5⟩;obtain⟨hc,hf,_,D7,hL⟩:=A3.mine (by simp) (q9 FR);have p1:w2.cell? ⟨wr.heap.size,1,none⟩=some (.int .i64 sl.place):=(hc 1).trans (by simp);have p3:w2.cell? ⟨wr.heap.size,3,none⟩=some (.string ⟨#[43]⟩):=(hc 3).trans (by simp);have P4:=j3 D7;have E9:=j3 (qf3 P6 A3);have D6:=j3 A5;clear A3 A5 hc hf D7)|(go_at_call 342;refine(q9 HF _ (j4 s sl) (ns++new) (j+1) (q9 D6) l7).mono ?_;rintro e w3⟨A9,h3⟩;rw[q9 D4]at h3;obtain⟨L1,rfl,B8,Y8,s9,Q6⟩:=h3;have a7:=j3 Q6;clear Q6;obtain⟨hc,hf,_,D7,aC⟩:=A9.mine hL (q9 P4);have q1:w3.cell? ⟨wr.heap.size,1,none⟩=some (.int .i64 sl.place):=(hc 1).trans p1;have q3:w3.cell? ⟨wr.heap.size,3,none⟩=some (.string ⟨#[43]⟩):=(hc 3).trans p3;have F5:=j3 A9;have F4:=j3 B8;clear A9 B8 hc hf D7)|(go_at_call 216;refine(qu3 (q9 F4) hs ⟨ve4 sl.tk.kind,sl.place,0,[],[],[]⟩ (ns.length+new.length - 1) (ns.length+new.length+L1.length - 1) (by rw[hk22];rfl) rfl rfl rfl (by simp)).mono ?_;rintro e w4⟨rfl,D0,D9⟩;have cA:=D9.fine.place;have L5:=j3 (qz5 D9);have K6:=j3 D0;have I6:=j3 D9;clear D0 D9))
     go_roundw
     case rel=>
      refine j3 ⟨(((q9 HK).trans (q9 E9)).trans (q9 F5)).trans (q9 K6),.inl ⟨mm,_,G4,new++L1++[qi5 ⟨ve4 sl.tk.kind,sl.place,0,[],[],[]⟩ [ns.length+new.length - 1,ns.length+new.length+L1.length - 1] false],q9 K5,by omega,vr9 (by simp;omega), ?_,Y8,by omega,Flat.bin _ (q9 K0) (by have:=q9 a7;rwa [List.length_append]at this)⟩⟩;have:=q9 I6;simpa only[List.append_assoc]using this
     case measure=>rw[q9 bQ,q9 L5];omega
    | err en pl=>
     have K5:Hid (R=.err en pl):=j3 (by rw[L8,qk0 G1 (qi7 A8)]);have D4:=j3 A8;clear G1 L8 A8
     go_wp2_with(first|(go_at_call 215;refine(va4 (q9 Q8)).mono ?_;rintro e w'⟨rfl,hw'⟩;subst w';simp only[eN])|(go_at_call 172;refine(qb4 (q9 H') hs (by omega) (by omega)).mono ?_;rintro e w2⟨rfl,A3,A5⟩;obtain⟨hc,hf,_,D7,hL⟩:=A3.mine (by simp) (q9 FR);have p1:w2.cell? ⟨wr.heap.size,1,none⟩=some (.int .i64 sl.place):=(hc 1).trans (by simp);have p3:w2.cell? ⟨wr.heap.size,3,none⟩=some (.string ⟨#[43]⟩):=(hc 3).trans (by simp);have P4:=j3 D7;have E9:=j3 (qf3 P6 A3);have D6:=j3 A5;clear A3 A5 hc hf D7)|(go_at_call 342;refine(q9 HF _ (j4 s sl) (ns++new) (j+1) (q9 D6) l7).mono ?_;rintro e w3⟨A9,h3⟩;rw[q9 D4]at h3;obtain⟨i3,rfl,B8⟩:=h3;obtain⟨hc,hf,_,D7,aC⟩:=A9.mine hL (q9 P4);have q1:w3.cell? ⟨wr.heap.size,1,none⟩=some (.int .i64 sl.place):=(hc 1).trans p1;have q3:w3.cell? ⟨wr.heap.size,3,none⟩=some (.string ⟨#[43]⟩):=(hc 3).trans p3;have F5:=j3 A9;have F4:=j3 B8;clear A9 B8 hc hf D7)|(go_at_call 216;refine(qq8 (q9 F4) (by omega) [43] sl.place (ns.length+new.length - 1) i3 rfl (by simp)).mono ?_;rintro e w4⟨i4,rfl,D0,D9⟩;have L5:=j3 (jc7 D9);have K6:=j3 D0;have I6:=j3 D9;clear D0 D9))
     go_roundw
     case rel=>exact j3 ⟨(((q9 HK).trans (q9 E9)).trans (q9 F5)).trans (q9 K6),.inr ⟨en,pl,i4,q9 K5,rfl,q9 I6⟩⟩
     case measure=>rw[q9 bQ,q9 L5];omega
   ·have xD:¬sl.tk.kind=22:=hk22
    have eN:(rK sl.tk.kind==5&&((BS (tkS sl)).toList==(⟨#[43]⟩:ByteArray).toList))=false:=(isK (c:=22) rfl (by decide) (by decide) 5 rfl).trans (beq_eq_false_iff_ne.2 hk22)
    by_cases hk23:sl.tk.kind=23
    ·have kC:(rK sl.tk.kind==5&&((BS (tkS sl)).toList==(⟨#[45]⟩:ByteArray).toList))=true:=(isK (c:=23) rfl (by decide) (by decide) 5 rfl).trans (by rw[hk23];rfl)
     have G1:([22,23]:List Int).contains sl.tk.kind=true:=by rw[hk23];rfl
     have jA:=E6.step_place (by omega);rw[show rK sl.tk.kind=5 by rw[hk23];rfl]at c2;rw[show tkZ sl=(sl.after:Int) by unfold tkZ;rw[if_neg (by omega)]]at c4;rw[show BS (tkS sl)=⟨#[45]⟩ by rw[jg1 (by omega),hk23];rfl]at c5;have P9:=(q9 Q8).fresh (.cells #[.int .i64 5,.int .i64 sl.place,.int .i64 sl.after,.string ⟨#[45]⟩,.int .i64 (tkN sl)] 235);have h':=(q9 Q8).alloc (.cells #[.int .i64 5,.int .i64 sl.place,.int .i64 sl.after,.string ⟨#[45]⟩,.int .i64 (tkN sl)] 235);have n0:¬wr.heap.size=rb:=by omega
     have n1:¬rb=wr.heap.size:=by omega
     have FR:=j3 P9;have H':=j3 h';clear P9 h'
     cases A8:f (j4 s sl) with
     | ok r G4=>
      have K5:Hid (R=qc7 s f [22,23] mm (ja4 sl l r) G4):=j3 (by rw[L8,qi9 G1 (qk3 A8)]);have D4:=j3 A8;clear G1 L8 A8
      go_wp2_with(first|(go_at_call 215;refine(va4 (q9 Q8)).mono ?_;rintro e w'⟨rfl,hw'⟩;subst w';simp only[eN,kC])|(go_at_call 172;refine(qb4 (q9 H') hs (by omega) (by omega)).mono ?_;rintro e w2⟨rfl,A3,A5⟩;obtain⟨hc,hf,_,D7,hL⟩:=A3.mine (by simp) (q9 FR);have p1:w2.cell? ⟨wr.heap.size,1,none⟩=some (.int .i64 sl.place):=(hc 1).trans (by simp);have p3:w2.cell? ⟨wr.heap.size,3,none⟩=some (.string ⟨#[45]⟩):=(hc 3).trans (by simp);have P4:=j3 D7;have E9:=j3 (qf3 P6 A3);have D6:=j3 A5;clear A3 A5 hc hf D7)|(go_at_call 342;refine(q9 HF _ (j4 s sl) (ns++new) (j+1) (q9 D6) l7).mono ?_;rintro e w3⟨A9,h3⟩;rw[q9 D4]at h3;obtain⟨L1,rfl,B8,Y8,s9,Q6⟩:=h3;have a7:=j3 Q6;clear Q6;obtain⟨hc,hf,_,D7,aC⟩:=A9.mine hL (q9 P4);have q1:w3.cell? ⟨wr.heap.size,1,none⟩=some (.int .i64 sl.place):=(hc 1).trans p1;have q3:w3.cell? ⟨wr.heap.size,3,none⟩=some (.string ⟨#[45]⟩):=(hc 3).trans p3;have F5:=j3 A9;have F4:=j3 B8;clear A9 B8 hc hf D7)|(go_at_call 216;refine(qu3 (q9 F4) hs ⟨ve4 sl.tk.kind,sl.place,0,[],[],[]⟩ (ns.length+new.length - 1) (ns.length+new.length+L1.length - 1) (by rw[hk23];rfl) rfl rfl rfl (by simp)).mono ?_;rintro e w4⟨rfl,D0,D9⟩;have cA:=D9.fine.place;have L5:=j3 (qz5 D9);have K6:=j3 D0;have I6:=j3 D9;clear D0 D9))
      go_roundw
      case rel=>
       refine j3 ⟨(((q9 HK).trans (q9 E9)).trans (q9 F5)).trans (q9 K6),.inl ⟨mm,_,G4,new++L1++[qi5 ⟨ve4 sl.tk.kind,sl.place,0,[],[],[]⟩ [ns.length+new.length - 1,ns.length+new.length+L1.length - 1] false],q9 K5,by omega,vr9 (by simp;omega), ?_,Y8,by omega,Flat.bin _ (q9 K0) (by have:=q9 a7;rwa [List.length_append]at this)⟩⟩;have:=q9 I6;simpa only[List.append_assoc]using this
      case measure=>rw[q9 bQ,q9 L5];omega
     | err en pl=>
      have K5:Hid (R=.err en pl):=j3 (by rw[L8,qk0 G1 (qi7 A8)]);have D4:=j3 A8;clear G1 L8 A8
      go_wp2_with(first|(go_at_call 215;refine(va4 (q9 Q8)).mono ?_;rintro e w'⟨rfl,hw'⟩;subst w';simp only[eN,kC])|(go_at_call 172;refine(qb4 (q9 H') hs (by omega) (by omega)).mono ?_;rintro e w2⟨rfl,A3,A5⟩;obtain⟨hc,hf,_,D7,hL⟩:=A3.mine (by simp) (q9 FR);have p1:w2.cell? ⟨wr.heap.size,1,none⟩=some (.int .i64 sl.place):=(hc 1).trans (by simp);have p3:w2.cell? ⟨wr.heap.size,3,none⟩=some (.string ⟨#[45]⟩):=(hc 3).trans (by simp);have P4:=j3 D7;have E9:=j3 (qf3 P6 A3);have D6:=j3 A5;clear A3 A5 hc hf D7)|(go_at_call 342;refine(q9 HF _ (j4 s sl) (ns++new) (j+1) (q9 D6) l7).mono ?_;rintro e w3⟨A9,h3⟩;rw[q9 D4]at h3;obtain⟨i3,rfl,B8⟩:=h3;obtain⟨hc,hf,_,D7,aC⟩:=A9.mine hL (q9 P4);have q1:w3.cell? ⟨wr.heap.size,1,none⟩=some (.int .i64 sl.place):=(hc 1).trans p1;have q3:w3.cell? ⟨wr.heap.size,3,none⟩=some (.string ⟨#[45]⟩):=(hc 3).trans p3;have F5:=j3 A9;have F4:=j3 B8;clear A9 B8 hc hf D7)|(go_at_call 216;refine(qq8 (q9 F4) (by omega) [45] sl.place (ns.length+new.length - 1) i3 rfl (by simp)).mono ?_;rintro e w4⟨i4,rfl,D0,D9⟩;have L5:=j3 (jc7 D9);have K6:=j3 D0;have I6:=j3 D9;clear D0 D9))
      go_roundw
      case rel=>exact j3 ⟨(((q9 HK).trans (q9 E9)).trans (q9 F5)).trans (q9 K6),.inr ⟨en,pl,i4,q9 K5,rfl,q9 I6⟩⟩
      case measure=>rw[q9 bQ,q9 L5];omega
    ·have xC:¬sl.tk.kind=23:=hk23
     have kC:(rK sl.tk.kind==5&&((BS (tkS sl)).toList==(⟨#[45]⟩:ByteArray).toList))=false:=(isK (c:=23) rfl (by decide) (by decide) 5 rfl).trans (beq_eq_false_iff_ne.2 hk23);have G1:([22,23]:List Int).contains sl.tk.kind=false:=by simp[xD,xC]
     have K5:Hid (R=.ok l sl):=j3 (by rw[L8,qp1 G1]);clear G1 L8
     go_wp2_with(first|(go_at_call 215;refine(va4 (q9 Q8)).mono ?_;rintro e w'⟨rfl,hw'⟩;subst w';simp only[eN,kC]))
     go_ret;rw[q9 K5];exact⟨q9 HK,new,rfl,q9 Q8,l7,T8,q9 K0⟩
  ·obtain⟨c8,dJ⟩:=U3.c8
   have fA:=j3 U3;have HK:=j3 hk;clear U3 hk hrel aS
   go_wp2_with fail
   go_ret;rw[L8];exact⟨q9 HK,i,rfl,q9 fA⟩
end
section
theorem RReads.more{K rb:Nat}{s:ByteArray}{op m m':Nat}{f:St->Res}(h:RReads K rb s op m f)(hm:m<=m'):RReads K rb s op m' f:=λw st ns j hr ho=>(h w st ns j hr ho).mono λ_ _ hE=>hE.more hm (Nat.le_refl _)
end
section
structure VN(w:World)(rb L:Nat)(ty:TypeId)(cs:Array Value):Prop where
 blk:w.heap[L]?=some (.cells cs ty (0,0))
 past:rb<L
 no:¬vb1 w rb L
section
variable {w w':World} {rb L:Nat} {ty:TypeId} {cs:Array Value}
theorem VN.lt(h:VN w rb L ty cs):L<w.heap.size:=(Array.getElem?_eq_some_iff.1 h.blk).1
theorem VN.cell(h:VN w rb L ty cs)(i:Nat):w.cell? ⟨L,i,none⟩=cs[i]?:=by
 have:=h.blk;simp[World.cell?,this]
theorem VN.frz(h:VN w rb L ty cs)(i:Nat):w.frozen? ⟨L,i,none⟩=false:=by
 have:=h.blk;simp[World.frozen?,this]
theorem VN.kept(h:VN w rb L ty cs)(hk:TKept rb w w'):VN w' rb L ty cs:=
 ⟨(hk.block L h.lt h.no).trans h.blk,h.past,λho=>h.no (hk.own L h.lt ho)⟩
theorem jn3(w:World){rb L:Nat}(hL:L≠rb)(i:Nat)(u:Value)(k:Nat):vb1 (w.setCell ⟨L,i,none⟩ u) rb k↔vb1 w rb k:=by
 have hc:(w.setCell ⟨L,i,none⟩ u).cell? ⟨rb,0,none⟩=w.cell? ⟨rb,0,none⟩:=World.cell?_of_block (w:=w) (a:=⟨rb,0,none⟩) (Below.heap_setCell w ⟨L,i,none⟩ u rb (λe=>hL e.symm));unfold vb1;rw[hc]
theorem VN.set(h:VN w rb L ty cs)(i:Nat)(u:Value):VN (w.setCell ⟨L,i,none⟩ u) rb L ty (cs.setIfInBounds i u):=by
 refine⟨?_,h.past,λho=>h.no ((jn3 w (by have:=h.past;omega) i u L).1 ho)⟩;have:=h.blk;simp[World.setCell,Array.getElem?_modify,this]
theorem VN.setB(h:VN w rb L ty cs){M:Nat}(hM:L≠M)(hMr:M≠rb)(i:Nat)(u:Value):VN (w.setCell ⟨M,i,none⟩ u) rb L ty cs:=
 ⟨(Below.heap_setCell w ⟨M,i,none⟩ u L hM).trans h.blk,h.past,λho=>h.no ((jn3 w hMr i u L).1 ho)⟩
theorem VN.rt{s:ByteArray}{ns:List RN}{j:Nat}{st:St}(h:VN w rb L ty cs)(h1:(3:TypeId)≠ty)(h2:(9:TypeId)≠ty)(hr:RT w rb s ns j st)(i:Nat)(u:Value):RT (w.setCell ⟨L,i,none⟩ u) rb s ns j st:=by
 obtain⟨nv,hT,hN,hF,hj⟩:=hr;have hL:L≠rb:=by have:=h.past;omega
 have hb:(w.setCell ⟨L,i,none⟩ u).heap[rb]?=w.heap[rb]?:=Below.heap_setCell w ⟨L,i,none⟩ u rb (λe=>hL e.symm);have hc:∀j,(w.setCell ⟨L,i,none⟩ u).cell? ⟨rb,j,none⟩=w.cell? ⟨rb,j,none⟩:=λj=>World.cell?_of_block (w:=w) (a:=⟨rb,j,none⟩) hb
 have hf:∀j,(w.setCell ⟨L,i,none⟩ u).frozen? ⟨rb,j,none⟩=w.frozen? ⟨rb,j,none⟩:=λj=>World.frozen?_of_block (w:=w) (a:=⟨rb,j,none⟩) hb
 refine⟨nv,⟨by simpa using hT.lt,(hc _).trans hT.c0,(hc _).trans hT.c1,(hc _).trans hT.c2,(hc _).trans hT.c3,(hc _).trans hT.c4,(hc _).trans hT.c5,(hc _).trans hT.c6,(hc _).trans hT.c7,(hc _).trans hT.c8,(hc _).trans hT.c9,λj=>(hf j).trans (hT.fz j)⟩,hN.far h.blk h1 h2 hL (λe=>h.no (.inr ⟨nv,hT.c0,e⟩)) i u,hF,hj⟩
theorem VN.re{s:ByteArray}{en pl:Int}{op m:Nat}(h:VN w rb L ty cs)(h1:(3:TypeId)≠ty)(h2:(9:TypeId)≠ty)(hr:RE w rb s en pl op m)(i:Nat)(u:Value):RE (w.setCell ⟨L,i,none⟩ u) rb s en pl op m:=by
 obtain⟨nv,a,ns,hT,he,hN,hm⟩:=hr;have hL:L≠rb:=by have:=h.past;omega
 have hb:(w.setCell ⟨L,i,none⟩ u).heap[rb]?=w.heap[rb]?:=Below.heap_setCell w ⟨L,i,none⟩ u rb (λe=>hL e.symm);have hc:∀j,(w.setCell ⟨L,i,none⟩ u).cell? ⟨rb,j,none⟩=w.cell? ⟨rb,j,none⟩:=λj=>World.cell?_of_block (w:=w) (a:=⟨rb,j,none⟩) hb
 have hf:∀j,(w.setCell ⟨L,i,none⟩ u).frozen? ⟨rb,j,none⟩=w.frozen? ⟨rb,j,none⟩:=λj=>World.frozen?_of_block (w:=w) (a:=⟨rb,j,none⟩) hb
 refine⟨nv,a,ns,⟨by simpa using hT.lt,(hc _).trans hT.c0,(hc _).trans hT.c1,(hc _).trans hT.c2,(hc _).trans hT.c3,(hc _).trans hT.c4,(hc _).trans hT.c5,(hc _).trans hT.c6,(hc _).trans hT.c7,(hc _).trans hT.c8,(hc _).trans hT.c9,λj=>(hf j).trans (hT.fz j)⟩,he,hN.far h.blk h1 h2 hL (λe=>h.no (.inr ⟨nv,hT.c0,e⟩)) i u,hm⟩
theorem VN.row{ty':TypeId}{v:Value}{vs:List Value}(h:VN w rb L ty cs)(h1:ty'≠ty)(hr:RowOf w rb ty' v vs)(i:Nat)(u:Value):RowOf (w.setCell ⟨L,i,none⟩ u) rb ty' v vs:=hr.far h.blk h1 (by have:=h.past;omega) i u
theorem VN.new{s:ByteArray}{ns:List RN}{j:Nat}{st:St}(h:RT w rb s ns j st)(ty:TypeId)(cs:Array Value){L:Nat}(hL:L=w.heap.size):VN (w.alloc (.cells cs ty)) rb L ty cs:=by
 subst hL;exact⟨heap_alloc_new w _,h.lt,h.fresh _⟩
theorem VN.newE{s:ByteArray}{en pl:Int}{op m:Nat}(h:RE w rb s en pl op m)(ty:TypeId)(cs:Array Value){L:Nat}(hL:L=w.heap.size):VN (w.alloc (.cells cs ty)) rb L ty cs:=by
 subst hL;exact⟨heap_alloc_new w _,h.lt,h.fresh _⟩
theorem VN.alloc(h:VN w rb L ty cs)(A1:rb<w.heap.size)(o:Obj):VN (w.alloc o) rb L ty cs:=h.kept (TKept.of_below ((Below.refl _ _).alloc (Nat.le_refl _) o) A1)
end
section
variable {w:World} {rb:Nat} {s:ByteArray} {ns:List RN} {j:Nat} {st:St} {en pl:Int} {op m:Nat}
theorem je0(h:RT w rb s ns (j+1) st)(hs:s.size<=200)(p:Pay)(hp:p.num=0)(ins:List Nat)(neg:Bool){N S E:ByteArray}{iv lv:Value}(hN:BS (qb7 p.op)=N)(hS:BS p.str=S)(hE:BS p.esc=E)(hi:RowOf w rb 3 iv (vb2 ins))(hl:RowOf w rb 9 lv (qa1 p.texts)):
  Calls prog 216 #[.pointer (some ⟨rb,0,none⟩),.agg #[.string N,.int .i64 p.place,iv,.string S,.string E,lv,.int .i64 0,.bool neg,.int .i64 0]] w
   λe w'=>e=.returned (.int .i64 ns.length)/\TKept rb w w'/\RT w' rb s (ns++[qi5 p ins neg]) j st:=by
 have:=vx3 h hs (qi5 p ins neg) hi hl;unfold rnV at this;have e1:(qi5 p ins neg).op=qb7 p.op:=rfl;have e2:(qi5 p ins neg).str=p.str:=rfl;have e3:(qi5 p ins neg).esc=p.esc:=rfl;have e4:(qi5 p ins neg).num=p.num:=rfl;rw[e1,e2,e3,e4,hp,hN,hS,hE]at this;exact this
theorem vf5(h:RE w rb s en pl op m)(hm:m<=1000)(ins:List Nat)(ts:List (List UInt8))(neg:Bool){N S E:ByteArray}{a:Int}{iv lv:Value}(hi:RowOf w rb 3 iv (vb2 ins))(hl:RowOf w rb 9 lv (qa1 ts)):
  Calls prog 216 #[.pointer (some ⟨rb,0,none⟩),.agg #[.string N,.int .i64 a,iv,.string S,.string E,lv,.int .i64 0,.bool neg,.int .i64 0]] w
   λe w'=>∃i:Nat,e=.returned (.int .i64 i)/\TKept rb w w'/\RE w' rb s en pl op (m+1):=
 vx2 h hm ⟨N.data.toList,a,ins,S.data.toList,E.data.toList,ts,0,neg,0⟩ hi hl
end
end
section
theorem rnull_any(rb:Nat)(s:ByteArray)(hs:s.size<=200)(op m:Nat)(hm:201<=m)(w:World)(st:St)(ns new:List RN)(j:Nat)(l:Ast)(h:RT w rb s (ns++new) j st)(ho:st.op=op)(hk:st.tk.kind=14)(F6:Flat l ns.length new)(i0:Nat)(O8:i0=ns.length+new.length - 1):
  Calls prog 322 #[.pointer (some ⟨rb,0,none⟩),.int .i64 i0] w (REnds rb s w op m ns j st.place (qd0 s l st)):=by
 obtain⟨_,c3,_⟩:=h.ct;have A1:=h.lt;have n0:¬w.heap.size=rb:=by omega
 have n1:¬rb=w.heap.size:=by omega
 have n2:¬w.heap.size+1=rb:=by omega
 have n3:¬rb=w.heap.size+1:=by omega
 have bK:TKept rb w ((w.alloc (.cells #[.int .i64 i0] 3)).alloc (.cells #[.string ⟨#[78,85,76,76]⟩,.int .i64 st.place,.slice (some ⟨w.heap.size,0,none⟩) 1 1,.string ⟨#[]⟩,.string ⟨#[]⟩,.slice none 0 0,.int .i64 0,.bool false,.int .i64 0] 241)):=((TKept.refl rb w).alloc A1 _).alloc A1 _;have h0:RT ((w.alloc (.cells #[.int .i64 i0] 3)).alloc (.cells #[.string ⟨#[78,85,76,76]⟩,.int .i64 st.place,.slice (some ⟨w.heap.size,0,none⟩) 1 1,.string ⟨#[]⟩,.string ⟨#[]⟩,.slice none 0 0,.int .i64 0,.bool false,.int .i64 0] 241)) rb s (ns++new) j st:=(h.alloc _).alloc _;have fR:VN ((w.alloc (.cells #[.int .i64 i0] 3)).alloc (.cells #[.string ⟨#[78,85,76,76]⟩,.int .i64 st.place,.slice (some ⟨w.heap.size,0,none⟩) 1 1,.string ⟨#[]⟩,.string ⟨#[]⟩,.slice none 0 0,.int .i64 0,.bool false,.int .i64 0] 241)) rb (w.heap.size+1) 241 #[.string ⟨#[78,85,76,76]⟩,.int .i64 st.place,.slice (some ⟨w.heap.size,0,none⟩) 1 1,.string ⟨#[]⟩,.string ⟨#[]⟩,.slice none 0 0,.int .i64 0,.bool false,.int .i64 0]:=VN.new (h.alloc _) _ _ (by simp);have iD:RowOf ((w.alloc (.cells #[.int .i64 i0] 3)).alloc (.cells #[.string ⟨#[78,85,76,76]⟩,.int .i64 st.place,.slice (some ⟨w.heap.size,0,none⟩) 1 1,.string ⟨#[]⟩,.string ⟨#[]⟩,.slice none 0 0,.int .i64 0,.bool false,.int .i64 0] 241)) rb 3 (.slice (some ⟨w.heap.size,0,none⟩) 1 1) (vb2 [i0]):=RowOf.kept (RowOf.made A1 h.fresh 3 #[.int .i64 i0] 1 rfl) (TKept.of_below ((Below.refl _ _).alloc (Nat.le_refl _) _) (h.alloc _).lt);have T8:=h.fine.step_place (by omega);have Z8:=j3 bK;have H0:=j3 h0;have o7:=j3 fR;have dO:=j3 iD;have K0:=j3 F6;have Z9:=j3 O8;have rJ:(j4 s st).tk.kind≠0->(j4 s st).place<(j4 s (j4 s st)).place:=(qa7 s st h.fine.after).step_place;have xY:(j4 s (j4 s st)).tk.kind≠0->(j4 s (j4 s st)).place<(j4 s (j4 s (j4 s st))).place:=(qa7 s _ (qa7 s st h.fine.after).after).step_place;clear h bK h0 fR iD F6 O8;unfold qd0
 by_cases k7:(j4 s st).tk.kind=7
 ·rw[if_pos k7]
  have gG:((j4 s st).tk.kind==7)=true:=by rw[k7];rfl
  by_cases k15:(j4 s (j4 s st)).tk.kind=15
  ·rw[if_pos k15]
   go_enter func322,ntmps322
   go_wp2_with(first|(go_at_call 215;refine(qp0 (q9 D5) 7 (X:=⟨#[78,79,84]⟩) rfl (by decide) (by decide) rfl).mono ?_;rintro e w'⟨rfl,hw'⟩;subst w';rw[gG])|(go_at_call 172;refine(qb4 ((q9 U9).rt (by decide) (by decide) (q9 D5) 7 (.bool true)) hs (by omega) (by omega)).mono ?_;rintro e w2⟨rfl,A3,A5⟩;have cY:=j3 (((q9 U9).set 7 (.bool true)).kept A3);have oW:=j3 (((q9 U9).row (by decide) (q9 dA) 7 (.bool true)).kept A3);have E9:=j3 (((q9 D8).far A1 (p:=⟨w.heap.size+1,7,none⟩) (by show w.heap.size<=w.heap.size+1;omega) (.bool true)).trans A3);have D6:=j3 A5;clear A3 A5)|(go_at_call 172;refine(qb4 (q9 H0) hs (by omega) (by omega)).mono ?_;rintro e w1⟨rfl,A0,A4⟩;have a9:=(q9 o7).kept A0;have p7:w1.cell? ⟨w.heap.size+1,7,none⟩=some (.bool false):=a9.cell 7;have pz:∀i,w1.frozen? ⟨w.heap.size+1,i,none⟩=false:=a9.frz;have dA:=j3 ((q9 dO).kept A0);have F3:=(q9 Z8).trans A0;have C8:=A4.lt;have U9:=j3 a9;have D8:=j3 F3;have D5:=j3 A4;clear A0 A4 a9 F3)|(go_at_call 343;refine(vc9 (q9 D6) hs 15 rfl (by decide) (by decide) rfl k15).mono ?_;rintro e w3⟨rfl,A9,B8⟩;have G5:=(q9 cY).kept A9;have q0:w3.cell? ⟨w.heap.size+1,0,none⟩=some (.string ⟨#[78,85,76,76]⟩):=G5.cell 0;have q1:w3.cell? ⟨w.heap.size+1,1,none⟩=some (.int .i64 st.place):=G5.cell 1;have q2:w3.cell? ⟨w.heap.size+1,2,none⟩=some (.slice (some ⟨w.heap.size,0,none⟩) 1 1):=G5.cell 2;have q3:w3.cell? ⟨w.heap.size+1,3,none⟩=some (.string ⟨#[]⟩):=G5.cell 3;have q4:w3.cell? ⟨w.heap.size+1,4,none⟩=some (.string ⟨#[]⟩):=G5.cell 4;have q5:w3.cell? ⟨w.heap.size+1,5,none⟩=some (.slice none 0 0):=G5.cell 5;have q6:w3.cell? ⟨w.heap.size+1,6,none⟩=some (.int .i64 0):=G5.cell 6;have q7:w3.cell? ⟨w.heap.size+1,7,none⟩=some (.bool true):=G5.cell 7;have q8:w3.cell? ⟨w.heap.size+1,8,none⟩=some (.int .i64 0):=G5.cell 8;have cZ:=j3 ((q9 oW).kept A9);have F5:=j3 ((q9 E9).trans A9);have F4:=j3 B8;clear A9 B8 G5)|(go_at_call 216;refine(je0 (q9 F4) hs ⟨23,st.place,0,[],[],[]⟩ rfl [i0] true rfl rfl rfl (q9 cZ) (RowOf.no _ _ _)).mono ?_;rintro e w4⟨rfl,D0,D9⟩;have K6:=j3 ((q9 F5).trans D0);have I6:=j3 D9;clear D0 D9))
   go_ret;refine⟨q9 K6,new++[qi5 ⟨23,st.place,0,[],[],[]⟩ [ns.length+new.length - 1] true],qg3 (by simp), ?_,ho,by have:=rJ (by omega);have:=xY (by omega);omega,Flat.neg1 _ _ (.inr (.inr rfl)) (q9 K0)⟩;have:=q9 I6;rw[List.append_assoc,q9 Z9]at this;exact this.less (by omega)
  ·rw[if_neg k15]
   go_enter func322,ntmps322
   go_wp2_with(first|(go_at_call 215;refine(qp0 (q9 D5) 7 (X:=⟨#[78,79,84]⟩) rfl (by decide) (by decide) rfl).mono ?_;rintro e w'⟨rfl,hw'⟩;subst w';rw[gG])|(go_at_call 172;refine(qb4 ((q9 U9).rt (by decide) (by decide) (q9 D5) 7 (.bool true)) hs (by omega) (by omega)).mono ?_;rintro e w2⟨rfl,A3,A5⟩;have cY:=j3 (((q9 U9).set 7 (.bool true)).kept A3);have oW:=j3 (((q9 U9).row (by decide) (q9 dA) 7 (.bool true)).kept A3);have E9:=j3 (((q9 D8).far A1 (p:=⟨w.heap.size+1,7,none⟩) (by show w.heap.size<=w.heap.size+1;omega) (.bool true)).trans A3);have D6:=j3 A5;clear A3 A5)|(go_at_call 172;refine(qb4 (q9 H0) hs (by omega) (by omega)).mono ?_;rintro e w1⟨rfl,A0,A4⟩;have a9:=(q9 o7).kept A0;have p7:w1.cell? ⟨w.heap.size+1,7,none⟩=some (.bool false):=a9.cell 7;have pz:∀i,w1.frozen? ⟨w.heap.size+1,i,none⟩=false:=a9.frz;have dA:=j3 ((q9 dO).kept A0);have F3:=(q9 Z8).trans A0;have C8:=A4.lt;have U9:=j3 a9;have D8:=j3 F3;have D5:=j3 A4;clear A0 A4 a9 F3)|(go_at_call 343;refine(qu6 (q9 D6) hs 15 rfl (by decide) (by decide) rfl k15).mono ?_;rintro e w3⟨rfl,A9,B8⟩;have G5:=(q9 cY).kept A9;have q0:w3.cell? ⟨w.heap.size+1,0,none⟩=some (.string ⟨#[78,85,76,76]⟩):=G5.cell 0;have q1:w3.cell? ⟨w.heap.size+1,1,none⟩=some (.int .i64 st.place):=G5.cell 1;have q2:w3.cell? ⟨w.heap.size+1,2,none⟩=some (.slice (some ⟨w.heap.size,0,none⟩) 1 1):=G5.cell 2;have q3:w3.cell? ⟨w.heap.size+1,3,none⟩=some (.string ⟨#[]⟩):=G5.cell 3;have q4:w3.cell? ⟨w.heap.size+1,4,none⟩=some (.string ⟨#[]⟩):=G5.cell 4;have q5:w3.cell? ⟨w.heap.size+1,5,none⟩=some (.slice none 0 0):=G5.cell 5;have q6:w3.cell? ⟨w.heap.size+1,6,none⟩=some (.int .i64 0):=G5.cell 6;have q7:w3.cell? ⟨w.heap.size+1,7,none⟩=some (.bool true):=G5.cell 7;have q8:w3.cell? ⟨w.heap.size+1,8,none⟩=some (.int .i64 0):=G5.cell 8;have cZ:=j3 ((q9 oW).kept A9);have F5:=j3 ((q9 E9).trans A9);have F4:=j3 B8;clear A9 B8 G5)|(go_at_call 216;refine(vf5 (q9 F4) (by omega) [i0] [] true (q9 cZ) (RowOf.no _ _ _)).mono ?_;rintro e w4⟨i4,rfl,D0,D9⟩;have K6:=j3 ((q9 F5).trans D0);have I6:=j3 D9;clear D0 D9))
   go_ret;exact⟨q9 K6,i4,rfl,ho ▸ (q9 I6).more (by omega)⟩
 ·rw[if_neg k7]
  have gG:((j4 s st).tk.kind==7)=false:=beq_eq_false_iff_ne.2 k7
  by_cases k15:(j4 s st).tk.kind=15
  ·rw[if_pos k15]
   go_enter func322,ntmps322
   go_wp2_with(first|(go_at_call 215;refine(qp0 (q9 D5) 7 (X:=⟨#[78,79,84]⟩) rfl (by decide) (by decide) rfl).mono ?_;rintro e w'⟨rfl,hw'⟩;subst w';rw[gG])|(go_at_call 172;refine(qb4 (q9 H0) hs (by omega) (by omega)).mono ?_;rintro e w1⟨rfl,A0,A4⟩;have a9:=(q9 o7).kept A0;have p7:w1.cell? ⟨w.heap.size+1,7,none⟩=some (.bool false):=a9.cell 7;have pz:∀i,w1.frozen? ⟨w.heap.size+1,i,none⟩=false:=a9.frz;have dA:=j3 ((q9 dO).kept A0);have F3:=(q9 Z8).trans A0;have C8:=A4.lt;have U9:=j3 a9;have D8:=j3 F3;have D5:=j3 A4;clear A0 A4 a9 F3)|(go_at_call 343;refine(vc9 (q9 D5) hs 15 rfl (by decide) (by decide) rfl k15).mono ?_;rintro e w3⟨rfl,A9,B8⟩;have G5:=(q9 U9).kept A9;have q0:w3.cell? ⟨w.heap.size+1,0,none⟩=some (.string ⟨#[78,85,76,76]⟩):=G5.cell 0;have q1:w3.cell? ⟨w.heap.size+1,1,none⟩=some (.int .i64 st.place):=G5.cell 1;have q2:w3.cell? ⟨w.heap.size+1,2,none⟩=some (.slice (some ⟨w.heap.size,0,none⟩) 1 1):=G5.cell 2;have q3:w3.cell? ⟨w.heap.size+1,3,none⟩=some (.string ⟨#[]⟩):=G5.cell 3;have q4:w3.cell? ⟨w.heap.size+1,4,none⟩=some (.string ⟨#[]⟩):=G5.cell 4;have q5:w3.cell? ⟨w.heap.size+1,5,none⟩=some (.slice none 0 0):=G5.cell 5;have q6:w3.cell? ⟨w.heap.size+1,6,none⟩=some (.int .i64 0):=G5.cell 6;have q7:w3.cell? ⟨w.heap.size+1,7,none⟩=some (.bool false):=G5.cell 7;have q8:w3.cell? ⟨w.heap.size+1,8,none⟩=some (.int .i64 0):=G5.cell 8;have cZ:=j3 ((q9 dA).kept A9);have F5:=j3 ((q9 D8).trans A9);have F4:=j3 B8;clear A9 B8 G5)|(go_at_call 216;refine(je0 (q9 F4) hs ⟨23,st.place,0,[],[],[]⟩ rfl [i0] false rfl rfl rfl (q9 cZ) (RowOf.no _ _ _)).mono ?_;rintro e w4⟨rfl,D0,D9⟩;have K6:=j3 ((q9 F5).trans D0);have I6:=j3 D9;clear D0 D9))
   go_ret;refine⟨q9 K6,new++[qi5 ⟨23,st.place,0,[],[],[]⟩ [ns.length+new.length - 1] false],qg3 (by simp), ?_,ho,by have:=rJ (by omega);omega,Flat.un _ (q9 K0)⟩;have:=q9 I6;rw[List.append_assoc,q9 Z9]at this;exact this.less (by omega)
  ·rw[if_neg k15]
   go_enter func322,ntmps322
   go_wp2_with(first|(go_at_call 215;refine(qp0 (q9 D5) 7 (X:=⟨#[78,79,84]⟩) rfl (by decide) (by decide) rfl).mono ?_;rintro e w'⟨rfl,hw'⟩;subst w';rw[gG])|(go_at_call 172;refine(qb4 (q9 H0) hs (by omega) (by omega)).mono ?_;rintro e w1⟨rfl,A0,A4⟩;have a9:=(q9 o7).kept A0;have p7:w1.cell? ⟨w.heap.size+1,7,none⟩=some (.bool false):=a9.cell 7;have pz:∀i,w1.frozen? ⟨w.heap.size+1,i,none⟩=false:=a9.frz;have dA:=j3 ((q9 dO).kept A0);have F3:=(q9 Z8).trans A0;have C8:=A4.lt;have U9:=j3 a9;have D8:=j3 F3;have D5:=j3 A4;clear A0 A4 a9 F3)|(go_at_call 343;refine(qu6 (q9 D5) hs 15 rfl (by decide) (by decide) rfl k15).mono ?_;rintro e w3⟨rfl,A9,B8⟩;have G5:=(q9 U9).kept A9;have q0:w3.cell? ⟨w.heap.size+1,0,none⟩=some (.string ⟨#[78,85,76,76]⟩):=G5.cell 0;have q1:w3.cell? ⟨w.heap.size+1,1,none⟩=some (.int .i64 st.place):=G5.cell 1;have q2:w3.cell? ⟨w.heap.size+1,2,none⟩=some (.slice (some ⟨w.heap.size,0,none⟩) 1 1):=G5.cell 2;have q3:w3.cell? ⟨w.heap.size+1,3,none⟩=some (.string ⟨#[]⟩):=G5.cell 3;have q4:w3.cell? ⟨w.heap.size+1,4,none⟩=some (.string ⟨#[]⟩):=G5.cell 4;have q5:w3.cell? ⟨w.heap.size+1,5,none⟩=some (.slice none 0 0):=G5.cell 5;have q6:w3.cell? ⟨w.heap.size+1,6,none⟩=some (.int .i64 0):=G5.cell 6;have q7:w3.cell? ⟨w.heap.size+1,7,none⟩=some (.bool false):=G5.cell 7;have q8:w3.cell? ⟨w.heap.size+1,8,none⟩=some (.int .i64 0):=G5.cell 8;have cZ:=j3 ((q9 dA).kept A9);have F5:=j3 ((q9 D8).trans A9);have F4:=j3 B8;clear A9 B8 G5)|(go_at_call 216;refine(vf5 (q9 F4) (by omega) [i0] [] false (q9 cZ) (RowOf.no _ _ _)).mono ?_;rintro e w4⟨i4,rfl,D0,D9⟩;have K6:=j3 ((q9 F5).trans D0);have I6:=j3 D9;clear D0 D9))
   go_ret;exact⟨q9 K6,i4,rfl,ho ▸ (q9 I6).more (by omega)⟩
end
end Go.Proofs.YtfkcaldjphakpaaGreatDoor
