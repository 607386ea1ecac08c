/- row. -/
import Derived.Test.YtfkcaldjphakpaaGreatDoorM03
set_option maxHeartbeats 16000000
set_option maxRecDepth 100000
namespace Go.Proofs.YtfkcaldjphakpaaGreatDoor
open Go.RowKit Go.Proofs.Tryz
def qc7(s:ByteArray)(f:St->Res)(ks:List Int):Nat->Ast->St->Res
 | 0,l,st=>.ok l st
 | n+1,l,st=>if ks.contains st.tk.kind then(match qf1 s f st l with
   | .ok l' st'=>qc7 s f ks n l' st'
   | .err en pl=>.err en pl) else .ok l st
def qf0(s:ByteArray)(f:St->Res)(ks:List Int)(st:St):Res:=match f st with
 | .ok l st'=>qc7 s f ks (s.size+1) l st'
 | .err en pl=>.err en pl
theorem qp1{s:ByteArray}{f:St->Res}{ks:List Int}{n:Nat}{l:Ast}{st:St}(h:ks.contains st.tk.kind=false):qc7 s f ks (n+1) l st=.ok l st:=by
 rw[qc7,if_neg (by rw[h];simp)]
theorem qi9{s:ByteArray}{f:St->Res}{ks:List Int}{n:Nat}{l l':Ast}{st st':St}(h:ks.contains st.tk.kind=true)(hj:qf1 s f st l=.ok l' st'):qc7 s f ks (n+1) l st=qc7 s f ks n l' st':=by
 rw[qc7,if_pos h,hj]
theorem qk0{s:ByteArray}{f:St->Res}{ks:List Int}{n:Nat}{l:Ast}{st:St}{en pl:Int}(h:ks.contains st.tk.kind=true)(hj:qf1 s f st l=.err en pl):qc7 s f ks (n+1) l st=.err en pl:=by
 rw[qc7,if_pos h,hj]
theorem qx3{s:ByteArray}{f:St->Res}{ks:List Int}{st st':St}{l:Ast}(h:f st=.ok l st'):qf0 s f ks st=qc7 s f ks (s.size+1) l st':=by unfold qf0;rw[h]
theorem qs8{s:ByteArray}{f:St->Res}{ks:List Int}{st:St}{en pl:Int}(h:f st=.err en pl):qf0 s f ks st=.err en pl:=by unfold qf0;rw[h]
def plOf(w:World)(rb:Nat):Nat:=match w.cell? ⟨rb,2,none⟩ with
 | some (.int _ n)=>n.toNat
 | _=>0
theorem vw8{w:World}{rb:Nat}{s:ByteArray}{st:St}(h:RdAt w rb s st):plOf w rb=st.place:=by
 unfold plOf;rw[h.c2];simp
theorem KsAt.kept{rb b:Nat}{w w':World}{ks:List Int}(h:KsAt w b ks)(hk:Kept rb w w')(hb:b<w.heap.size)(hn:¬b=rb):KsAt w' b ks:=
 λj k hj=>((qe1 hk).1 b j hb hn).trans (h j k hj)
theorem vy1{K:Nat}(hK:K=102\/K=147\/K=266\/K=301)(rb ob cap:Nat)(s:ByteArray)(op:Nat)(f:St->Res)(hf:qm4 K rb s op f)(ks:List Int)(yL:ks.length<=8)(h0:ks.contains 0=false)(st:St)(w:World)(h:Ready rb s w st)(H6:st.op=op)(ho:KsAt w ob ks)(rO:ob<w.heap.size)(C1:¬ob=rb):
  Calls prog 101 #[.pointer (some ⟨rb,0,none⟩),.func (.func K) #[.pointer (some ⟨rb,0,none⟩)] #[],.slice (some ⟨ob,0,none⟩) ks.length cap] w (Gives rb s w op st.place (qf0 s f ks st)):=by
 have H:=j3 h;have JK:=j3 (vs1 (show K=102\/K=147\/K=266\/K=301\/K=241 by omega) rb s op f hf);have HF:=j3 hf;have HO:=j3 ho;have A1:=h.lt;clear h hf ho;rcases hK with rfl|rfl|rfl|rfl
 all_goals
  cases A8:f st with
  | err en pl=>
   rw[qs8 A8];have D4:=j3 A8;clear A8;go_enter func101,ntmps101
   go_wp2_with((first|go_at_call 102|go_at_call 147|go_at_call 266|go_at_call 301);refine(q9 HF _ st (q9 H) H6).mono ?_;rintro e w1⟨A0,h1⟩;rw[q9 D4]at h1;subst h1;simp only[qd2])
   exact⟨rfl,A0,rfl⟩
  | ok l0 st0=>
   rw[qx3 A8];have D4:=j3 A8;clear A8;obtain⟨R,hR⟩:∃r,qc7 s f ks (s.size+1) l0 st0=r:=⟨_,rfl⟩;rw[hR];have HR:=j3 hR;clear hR;go_enter func101,ntmps101
   go_wp2_with((first|go_at_call 102|go_at_call 147|go_at_call 266|go_at_call 301);refine(q9 HF _ st (q9 H) H6).mono ?_;rintro e w1⟨A0,h1⟩;rw[q9 D4]at h1;obtain⟨v1,rfl,aK,A4,F7,K8,U5⟩:=h1;have aK:=j3 aK;have A4:=j3 A4;have A0:=j3 A0;have F7:=j3 F7)
   go_loopw [7] (λv wr=>∃(n:Nat) (l:Ast) (sl:St),Hid (R=qc7 s f ks n l sl)/\s.size<n+sl.place/\IsNode rb wr v l/\Hid (Ready rb s wr sl)/\sl.op=op/\st.place<=sl.place/\Kept rb w wr) (λv wr=>s.size+1 - plOf wr rb)
   case atStart=>exact⟨s.size+1,l0,st0,j3 (q9 HR).symm,by omega,q9 aK,j3 ((q9 H).kept (q9 A0) (q9 A4) (q9 F7)),K8,U5,q9 A0⟩
   case round=>
    obtain⟨n,l,sl,hR,hn,G6,C9,eF,T8,hk⟩:=hrel;have E6:=(q9 C9).fine;have MO:=E6.place;obtain⟨lb,rfl⟩:=G6.ptr;obtain⟨m,rfl⟩:∃m,n=m+1:=⟨n - 1,by omega⟩;have CB:=j3 ((q9 HO).kept hk rO C1);have wS:=j3 G6;have HK:=j3 hk;have P6:=(q9 C9).lt;have BN:=j3 (vw8 (q9 C9).at');obtain⟨c0,c1,c2,c3,c4,c5,c6,fz⟩:=(q9 C9).at';clear G6 hk;have CON:=λw=>vu4 ob cap ks sl.tk.kind w yL
    cases hc:ks.contains sl.tk.kind with
    | false=>
     have K5:Hid (R=.ok l sl):=j3 (by rw[q9 hR,qp1 hc]);rw[hc]at CON;have lF:=j3 CON;clear hc CON hR c0 c2 c3 c4 c5 c6 fz
     go_wp2_with(go_at_call 145;refine(q9 lF _ (q9 CB)).mono ?_;rintro e w'⟨rfl,rfl⟩)
     go_ret;rw[q9 K5];exact⟨q9 HK,_,rfl,q9 wS,(q9 C9).at',E6,eF,T8⟩
    | true=>
     rw[hc]at CON;have lF:=j3 CON;have R0:sl.tk.kind≠0:=λh=>by rw[h,h0]at hc;cases hc
     have EY:=E6.long R0
     cases hj:qf1 s f sl l with
     | err en pl=>
      have K5:Hid (R=.err en pl):=j3 (by rw[q9 hR,qk0 hc hj]);have HJ:=j3 hj;clear hc CON hR hj c0 c2 c3 c4 c5 c6 fz R0
      go_wp2_with(first|(go_at_call 145;refine(q9 lF _ (q9 CB)).mono ?_;rintro e w'⟨rfl,rfl⟩)|(go_at_call 146;refine(q9 JK sl l _ _ (q9 C9) eF (q9 wS)).mono ?_;rintro e w2⟨A3,h2⟩;rw[q9 HJ]at h2;subst h2;simp only[qd2]))
      rw[q9 K5];exact⟨rfl,(q9 HK).trans A3,rfl⟩
     | ok l2 G4=>
      have K5:Hid (R=qc7 s f ks m l2 G4):=j3 (by rw[q9 hR,qi9 hc hj]);have HJ:=j3 hj;clear hc CON hR hj c0 c2 c3 c4 c5 c6 fz R0
      go_wp2_with(first|(go_at_call 145;refine(q9 lF _ (q9 CB)).mono ?_;rintro e w'⟨rfl,rfl⟩)|(go_at_call 146;refine(q9 JK sl l _ _ (q9 C9) eF (q9 wS)).mono ?_;rintro e w2⟨A3,h2⟩;rw[q9 HJ]at h2;obtain⟨v2,rfl,G8,A5,H8,I2,S8⟩:=h2;have pA:=j3 (vw8 A5);have A5:=j3 A5;have G8:=j3 G8;have A3:=j3 A3;have H8:=j3 H8))
      have B9:=(q9 H8).place
      go_roundw
      case rel=>exact⟨m,l2,G4,K5,by omega,q9 G8,j3 ((q9 C9).kept (q9 A3) (q9 A5) (q9 H8)),I2,by omega,(q9 HK).trans (q9 A3)⟩
      case measure=>rw[q9 BN,q9 pA];omega
theorem Ready.allocd{rb:Nat}{s:ByteArray}{w:World}{st:St}(h:Ready rb s w st)(o:Obj):Ready rb s (w.alloc o) st:=
 h.kept ((Kept.refl rb w).alloc o) (h.at'.allocd o h.lt) h.fine
theorem Gives.from{rb:Nat}{s:ByteArray}{w w1:World}{op lo:Nat}{r:Res}{e:Ending}{w':World}(hk:Kept rb w w1)(h:Gives rb s w1 op lo r e w'):Gives rb s w op lo r e w':=⟨hk.trans h.1,h.2⟩
theorem Gives.cases{rb:Nat}{s:ByteArray}{w:World}{op lo:Nat}{r:Res}{e:Ending}{w':World}(h:Gives rb s w op lo r e w'):(∃v,e=.returned v/\Gives rb s w op lo r (.returned v) w')\/(∃en pl,e=qd2 en pl/\Gives rb s w op lo r (qd2 en pl) w'):=by
 cases r with
 | ok t st=>obtain⟨hk,v,rfl,h2⟩:=h;exact .inl ⟨v,rfl,hk,v,rfl,h2⟩
 | err en pl=>obtain⟨hk,rfl⟩:=h;exact .inr ⟨en,pl,rfl,hk,rfl⟩
theorem jb4(rb:Nat)(s:ByteArray)(op:Nat)(f:St->Res)(hf:qm4 102 rb s op f):qm4 55 rb s op (qf0 s f [6]):=by
 intro w st h H6;have H:=j3 h;have HF:=j3 hf;have pT:∀(fn:Fn) (first cap:Array Value) (w:World),(Instr.makeFunc fn first cap).run prog w=.ok (.func fn first cap) w:=λ_ _ _ _=>rfl
 have A1:=h.lt;clear h hf;go_enter func55,ntmps55
 go_wp2_with fail
 refine(vy1 (by decide) rb w.heap.size 1 s op f (q9 HF) [6] (by decide) (by decide) st _ ((q9 H).allocd _) H6 ?ks (by simp) (by omega)).mono ?_
 case ks=>
  intro j k hj
  match j,hj with
  | 0,hj=>simp at hj;subst hj;simp
 rintro e w' hg;rcases hg.cases with⟨v,rfl,hg⟩|⟨en,pl,rfl,hg⟩
 ·have HG:=j3 (hg.from ((Kept.refl rb w).alloc _))
  clear hg
  go_wp2_with fail
  go_ret;exact q9 HG
 ·exact⟨rfl,hg.from ((Kept.refl rb w).alloc _)⟩
theorem ju0(rb:Nat)(s:ByteArray)(op:Nat)(f:St->Res)(hf:qm4 147 rb s op f):qm4 102 rb s op (qf0 s f [5]):=by
 intro w st h H6;have H:=j3 h;have HF:=j3 hf;have pT:∀(fn:Fn) (first cap:Array Value) (w:World),(Instr.makeFunc fn first cap).run prog w=.ok (.func fn first cap) w:=λ_ _ _ _=>rfl
 have A1:=h.lt;clear h hf;go_enter func102,ntmps102
 go_wp2_with fail
 refine(vy1 (by decide) rb w.heap.size 1 s op f (q9 HF) [5] (by decide) (by decide) st _ ((q9 H).allocd _) H6 ?ks (by simp) (by omega)).mono ?_
 case ks=>
  intro j k hj
  match j,hj with
  | 0,hj=>simp at hj;subst hj;simp
 rintro e w' hg;rcases hg.cases with⟨v,rfl,hg⟩|⟨en,pl,rfl,hg⟩
 ·have HG:=j3 (hg.from ((Kept.refl rb w).alloc _))
  clear hg
  go_wp2_with fail
  go_ret;exact q9 HG
 ·exact⟨rfl,hg.from ((Kept.refl rb w).alloc _)⟩
theorem sum_reads(rb:Nat)(s:ByteArray)(op:Nat)(f:St->Res)(hf:qm4 266 rb s op f):qm4 241 rb s op (qf0 s f [22,23]):=by
 intro w st h H6;have H:=j3 h;have HF:=j3 hf;have pT:∀(fn:Fn) (first cap:Array Value) (w:World),(Instr.makeFunc fn first cap).run prog w=.ok (.func fn first cap) w:=λ_ _ _ _=>rfl
 have A1:=h.lt;clear h hf;go_enter func241,ntmps241
 go_wp2_with fail
 refine(vy1 (by decide) rb w.heap.size 2 s op f (q9 HF) [22,23] (by decide) (by decide) st _ ((q9 H).allocd _) H6 ?ks (by simp) (by omega)).mono ?_
 case ks=>
  intro j k hj
  match j,hj with
  | 0,hj=>simp at hj;subst hj;simp
  | 1,hj=>simp at hj;subst hj;simp
 rintro e w' hg;rcases hg.cases with⟨v,rfl,hg⟩|⟨en,pl,rfl,hg⟩
 ·have HG:=j3 (hg.from ((Kept.refl rb w).alloc _))
  clear hg
  go_wp2_with fail
  go_ret;exact q9 HG
 ·exact⟨rfl,hg.from ((Kept.refl rb w).alloc _)⟩
theorem vx0(rb:Nat)(s:ByteArray)(op:Nat)(f:St->Res)(hf:qm4 301 rb s op f):qm4 266 rb s op (qf0 s f [24,25]):=by
 intro w st h H6;have H:=j3 h;have HF:=j3 hf;have pT:∀(fn:Fn) (first cap:Array Value) (w:World),(Instr.makeFunc fn first cap).run prog w=.ok (.func fn first cap) w:=λ_ _ _ _=>rfl
 have A1:=h.lt;clear h hf;go_enter func266,ntmps266
 go_wp2_with fail
 refine(vy1 (by decide) rb w.heap.size 2 s op f (q9 HF) [24,25] (by decide) (by decide) st _ ((q9 H).allocd _) H6 ?ks (by simp) (by omega)).mono ?_
 case ks=>
  intro j k hj
  match j,hj with
  | 0,hj=>simp at hj;subst hj;simp
  | 1,hj=>simp at hj;subst hj;simp
 rintro e w' hg;rcases hg.cases with⟨v,rfl,hg⟩|⟨en,pl,rfl,hg⟩
 ·have HG:=j3 (hg.from ((Kept.refl rb w).alloc _))
  clear hg
  go_wp2_with fail
  go_ret;exact q9 HG
 ·exact⟨rfl,hg.from ((Kept.refl rb w).alloc _)⟩
def qk2(s:ByteArray)(st:St):St:={ j4 s st with op:=st.op+1 }
def qd3(s:ByteArray)(f:St->Res)(st:St):Res:=if st.op=12 then .err 3 st.place else match f (qk2 s st) with
 | .ok t st'=>if st'.tk.kind=27 then .ok t { j4 s st' with op:=st.op } else .err 2 st'.place
 | .err en pl=>.err en pl
theorem Fine.op{s:ByteArray}{st:St}(h:Fine s st)(n:Nat):Fine s { st with op:=n }:=⟨h.place,h.after,h.long⟩
theorem Fine.next{s:ByteArray}{st:St}(h:Fine s st):Fine s (j4 s st):=qa7 s st h.after
theorem Fine.le{s:ByteArray}{st:St}(h:Fine s st)(hk:st.tk.kind≠0):st.place<=(j4 s st).place:=Nat.le_trans (Nat.le_of_lt (h.long hk)) (qk6 s st)
theorem jm2(rb:Nat)(s:ByteArray)(op:Nat)(H6:op<=12)(f:St->Res)(hf:op<12->qm4 55 rb s (op+1) f)(w:World)(st:St)(h:Ready rb s w st)(ho:st.op=op)(R0:st.tk.kind≠0):
  Calls prog 331 #[.pointer (some ⟨rb,0,none⟩)] w (Gives rb s w op st.place (qd3 s f st)):=by
 have H:=j3 h;have A1:=h.lt
 by_cases F9:st.op=12
 ·rw[qd3,if_pos F9]
  have jN:=j3 F9;clear h hf F9;go_enter func331,ntmps331
  go_wp2_with(go_at_call 199;refine(vu7 rb s st _ (q9 H).at' A1 (q9 jN)).mono ?_;rintro e w1⟨rfl,A0⟩;simp only[qd2])
  exact⟨rfl,A0,rfl⟩
 ·have J0:op<12:=by omega
  have HF:=j3 (hf J0);have N8:=h.fine.le R0;rw[qd3,if_neg F9];have HS:Hid (st.op<12):=j3 (by omega);have READY:∀w1,Kept rb w w1->RdAt w1 rb s (qk2 s st)->Ready rb s w1 (qk2 s st):=λw1 hk hr=>h.kept hk hr (h.fine.next.op _)
  have N9:=j3 READY;have dH:(qk2 s st).op=op+1:=by show st.op+1=op+1;omega
  have lC:=j3 dH;clear h hf F9 READY dH
  cases A8:f (qk2 s st) with
  | err en pl=>
   have D4:=j3 A8;clear A8;go_enter func331,ntmps331
   go_wp2_with(first|(go_at_call 199;refine(qt8 rb s st _ (q9 H).size (q9 H).fine.after (q9 H).at' A1 (q9 H).err (q9 H).glob (q9 HS)).mono ?_;rintro e w1⟨rfl,A4,A0⟩;have A4:=j3 A4;have A0:=j3 A0;simp only[tkV])|(go_at_call 55;refine(q9 HF _ (qk2 s st) (q9 N9 _ (q9 A0) (q9 A4)) (q9 lC)).mono ?_;rintro e w2⟨A3,h2⟩;rw[q9 D4]at h2;subst h2;simp only[qd2]))
   exact⟨rfl,(q9 A0).trans A3,rfl⟩
  | ok t G4=>
   have D4:=j3 A8;clear A8
   by_cases h27:G4.tk.kind=27
   ·simp only[if_pos h27]
    have pK:=j3 h27;have OM:Hid (G4.tk.kind≠0):=j3 (by rw[h27];decide);clear h27;go_enter func331,ntmps331
    go_wp2_with(first|(go_at_call 199;refine(qt8 rb s st _ (q9 H).size (q9 H).fine.after (q9 H).at' A1 (q9 H).err (q9 H).glob (q9 HS)).mono ?_;rintro e w1⟨rfl,A4,A0⟩;have A4:=j3 A4;have A0:=j3 A0;simp only[tkV])|(go_at_call 55;refine(q9 HF _ (qk2 s st) (q9 N9 _ (q9 A0) (q9 A4)) (q9 lC)).mono ?_;rintro e w2⟨A3,h2⟩;rw[q9 D4]at h2;obtain⟨v2,rfl,G8,A5,H8,I2,S8⟩:=h2;obtain⟨vb,rfl⟩:=G8.ptr;have I1:=j3 ((q9 H).kept ((q9 A0).trans A3) A5 H8);have G8:=j3 G8;have A3:=j3 A3;have H8:=j3 H8;have I2:=j3 I2;clear A5)|(go_at_call 56;refine(qd1 rb s G4 27 _ (q9 I1).size (q9 H8).after (q9 I1).at' (q9 I1).lt (q9 I1).err (q9 pK)).mono ?_;rintro e w3⟨rfl,B8,A9⟩;have d6:w3.cell? ⟨rb,6,none⟩=some (.int .i64 ((op:Int)+1)):=(by rw[B8.c6,stepSt_op,q9 I2];simp);have dz:=B8.fz;have B8:=j3 B8;have A9:=j3 A9;simp only[tkV]))
    go_ret;refine⟨(((q9 A0).trans (q9 A3)).trans (q9 A9)).setCell 6 _,_,rfl,(q9 G8).kept ((q9 A9).setCell 6 _),(q9 B8).setOp st.op _ (by omega),(q9 H8).next.op _,ho, ?_⟩;have h1:=(q9 H8).le (q9 OM);have h2:(qk2 s st).place=(j4 s st).place:=rfl;show st.place<=(j4 s G4).place;omega
   ·simp only[if_neg h27]
    have pK:=j3 h27;clear h27;go_enter func331,ntmps331
    go_wp2_with(first|(go_at_call 199;refine(qt8 rb s st _ (q9 H).size (q9 H).fine.after (q9 H).at' A1 (q9 H).err (q9 H).glob (q9 HS)).mono ?_;rintro e w1⟨rfl,A4,A0⟩;have A4:=j3 A4;have A0:=j3 A0;simp only[tkV])|(go_at_call 55;refine(q9 HF _ (qk2 s st) (q9 N9 _ (q9 A0) (q9 A4)) (q9 lC)).mono ?_;rintro e w2⟨A3,h2⟩;rw[q9 D4]at h2;obtain⟨v2,rfl,G8,A5,H8,I2,S8⟩:=h2;obtain⟨vb,rfl⟩:=G8.ptr;have I1:=j3 ((q9 H).kept ((q9 A0).trans A3) A5 H8);have G8:=j3 G8;have A3:=j3 A3;have H8:=j3 H8;have I2:=j3 I2;clear A5)|(go_at_call 56;refine(qn0 rb s G4 27 _ (q9 I1).at' (q9 I1).lt (q9 pK)).mono ?_;rintro e w3⟨rfl,A9⟩;simp only[qd2]))
    exact⟨rfl,((q9 A0).trans (q9 A3)).trans A9,rfl⟩
theorem IsNode.one{rb:Nat}{w:World}{l:Ast}{lv:Value}(hl:IsNode rb w lv l)(A1:rb<w.heap.size)(op place:Int):
  IsNode rb ((w.alloc (.cells #[lv] 67)).alloc (.cells #[.int .i64 op,.int .i64 place,.slice (some ⟨w.heap.size,0,none⟩) 1 1,.int .i64 0,.string ⟨#[]⟩,.string ⟨#[]⟩,.slice none 0 0] 102))
   (.pointer (some ⟨w.heap.size+1,0,none⟩)) (.un ⟨op,place,0,[],[],[]⟩ l):=by
 have hk:Kept rb w ((w.alloc (.cells #[lv] 67)).alloc (.cells #[.int .i64 op,.int .i64 place,.slice (some ⟨w.heap.size,0,none⟩) 1 1,.int .i64 0,.string ⟨#[]⟩,.string ⟨#[]⟩,.slice none 0 0] 102)):=((Kept.refl rb w).alloc _).alloc _;refine⟨w.heap.size+1,w.heap.size,lv,rfl,⟨by omega,by simp,by simp,by simp,by simp,by simp,by simp[BS],by simp[BS],.slice none 0 0,by simp,.inl ⟨rfl,rfl⟩⟩,A1,by simp;omega, ?_,hl.kept hk⟩;rw[World.cell?_alloc_past _ _ _ (by simp),World.cell?_alloc_at _ _ _ _ rfl];rfl
theorem ve8(rb:Nat)(x:Ast)(xv:Value)(place:Int)(w:World)(hx:IsNode rb w xv x)(A1:rb<w.heap.size):
  Calls prog 200 #[xv,.int .i64 place] w λe w'=>(∃v,e=.returned v/\IsNode rb w' v (.un ⟨5,place,0,[],[],[]⟩ x))/\Below w.heap.size w w':=by
 obtain⟨b,rfl⟩:=hx.ptr;have HX:=j3 hx;clear hx;go_enter func200,ntmps200
 go_wp2_with fail
 go_ret;exact⟨⟨_,rfl,(q9 HX).one A1 5 place⟩,vr1 _ _ _⟩
theorem Kept.grown{rb:Nat}{a w w':World}{row:Option Nat}(h:Kept rb a w)(hg:w.grownBy w' row)(J3:∀k,row=some k->a.heap.size<=k):Kept rb a w':=
 ⟨hg.os.trans h.os,hg.tape.trans h.tape,hg.output.trans h.output,Nat.le_trans h.size hg.size,λk hk hn=>(hg.block k (Nat.lt_of_lt_of_le hk h.size) (λe=>by have:=J3 k e.symm;omega)).trans (h.block k hk hn)⟩
theorem RdAt.same{w w':World}{rb:Nat}{s:ByteArray}{st:St}(h:RdAt w rb s st)(hb:w'.heap[rb]?=w.heap[rb]?):RdAt w' rb s st:=by
 have hc:∀j,w'.cell? ⟨rb,j,none⟩=w.cell? ⟨rb,j,none⟩:=λj=>World.cell?_of_block (w:=w) (w':=w') (a:=⟨rb,j,none⟩) hb
 have hf:∀j,w'.frozen? ⟨rb,j,none⟩=w.frozen? ⟨rb,j,none⟩:=λj=>World.frozen?_of_block (w:=w) (w':=w') (a:=⟨rb,j,none⟩) hb
 exact⟨(hc 0).trans h.c0,(hc 1).trans h.c1,(hc 2).trans h.c2,(hc 3).trans h.c3,(hc 4).trans h.c4,(hc 5).trans h.c5,(hc 6).trans h.c6,λj=>(hf j).trans (h.fz j)⟩
theorem RdAt.grown{w w':World}{rb:Nat}{s:ByteArray}{st:St}{row:Option Nat}(h:RdAt w rb s st)(hg:w.grownBy w' row)(A1:rb<w.heap.size)(J3:∀k,row=some k->rb<k):RdAt w' rb s st:=
 h.same (hg.block rb A1 (λe=>by have:=J3 rb e.symm;omega))
theorem vw5{rb base e size n:Nat}{w w':World}{v:Value}{xs:List Value}(h:w.ownsRow base e size v n xs)(hk:Kept rb w w')(hb:rb<base):w'.ownsRow base e size v n xs:=by
 refine⟨h.1, ?_⟩;rcases h.2 with hn|⟨g,cap,cur,rfl,K7,J1,rest⟩
 ·exact .inl hn
 ·refine .inr ⟨g,cap,cur,rfl,K7, ?_,rest⟩
  rw[hk.block g (Array.getElem?_eq_some_iff.1 J1).1 (by omega)];exact J1
def qa1(ts:List (List UInt8)):List Value:=ts.map λt=>.string (BS t)
theorem TextsAt.of_row{rb base e:Nat}{w:World}{v:Value}{ts:List (List UInt8)}(h:w.ownsRow base e 1 v ts.length (qa1 ts))(hb:rb<base):TextsAt rb w v ts:=by
 have h0:=h;rcases h.2 with⟨hv,hn⟩|⟨g,cap,cur,rfl,K7,J1,_⟩
 ·exact .inl ⟨List.eq_nil_of_length_eq_zero hn,hv⟩
 ·refine .inr ⟨g,cap,rfl,by omega,(Array.getElem?_eq_some_iff.1 J1).1,λj t ht=>?_⟩
  have:=h0.cells (g:=g) rfl j (.string (BS t)) (by simp[qa1,ht]);have O9:(⟨g,0,none⟩:Addr).add j=⟨g,j,none⟩:=by unfold Addr.add;split<;>simp_all
  rwa [O9]at this
theorem IsNode.texted{rb:Nat}{w:World}{l:Ast}{lv tv:Value}{ts:List (List UInt8)}(hl:IsNode rb w lv l)(A1:rb<w.heap.size)(ht:TextsAt rb w tv ts)(op place:Int)(str esc:List UInt8):
  IsNode rb ((w.alloc (.cells #[lv] 67)).alloc (.cells #[.int .i64 op,.int .i64 place,.slice (some ⟨w.heap.size,0,none⟩) 1 1,.int .i64 0,.string (BS str),.string (BS esc),tv] 102))
   (.pointer (some ⟨w.heap.size+1,0,none⟩)) (.un ⟨op,place,0,str,esc,ts⟩ l):=by
 have hk:Kept rb w ((w.alloc (.cells #[lv] 67)).alloc (.cells #[.int .i64 op,.int .i64 place,.slice (some ⟨w.heap.size,0,none⟩) 1 1,.int .i64 0,.string (BS str),.string (BS esc),tv] 102)):=((Kept.refl rb w).alloc _).alloc _;refine⟨w.heap.size+1,w.heap.size,lv,rfl,⟨by omega,by simp,by simp,by simp,by simp,by simp,by simp,by simp,tv,by simp,ht.kept hk⟩,A1,by simp;omega, ?_,hl.kept hk⟩;rw[World.cell?_alloc_past _ _ _ (by simp),World.cell?_alloc_at _ _ _ _ rfl];rfl
theorem Fine.lt{s:ByteArray}{st:St}(h:Fine s st)(hk:st.tk.kind≠0):st.place<(j4 s st).place:=Nat.lt_of_lt_of_le (h.long hk) (qk6 s st)
theorem jb7(k p n:Int)(b:ByteArray)(w:World):(Instr.field 91 (.agg #[.int .i64 k,.int .i64 p,.int .i64 n,.string b]) 3).run prog w=.ok (.string b) w:=by kernel_rfl
def qf2(s:ByteArray)(l:Ast)(pl:Nat):Nat->List (List UInt8)->St->Res
 | 0,_,_=>.err 0 0
 | n+1,ts,st=>if st.tk.kind=28 then(if(j4 s st).tk.kind=4 then qf2 s l pl n (ts++[(j4 s st).tk.str]) (j4 s (j4 s st)) else .err 2 (j4 s st).place)
   else if st.tk.kind=27 then .ok (.un ⟨21,pl,0,[],[],ts⟩ l) (j4 s st) else .err 2 st.place
def qg7(s:ByteArray)(l:Ast)(st:St):Res:=
 if(j4 s st).tk.kind=26 then(if(j4 s (j4 s st)).tk.kind=4 then qf2 s l st.place (s.size+1) [(j4 s (j4 s st)).tk.str] (j4 s (j4 s (j4 s st))) else .err 2 (j4 s (j4 s st)).place)
 else .err 2 (j4 s st).place
theorem vk8{s:ByteArray}{l:Ast}{pl n:Nat}{ts:List (List UInt8)}{st:St}(h:st.tk.kind=28)(h4:(j4 s st).tk.kind=4):qf2 s l pl (n+1) ts st=qf2 s l pl n (ts++[(j4 s st).tk.str]) (j4 s (j4 s st)):=by rw[qf2,if_pos h,if_pos h4]
theorem vr7{s:ByteArray}{l:Ast}{pl n:Nat}{ts:List (List UInt8)}{st:St}(h:st.tk.kind=28)(h4:¬(j4 s st).tk.kind=4):qf2 s l pl (n+1) ts st=.err 2 (j4 s st).place:=by rw[qf2,if_pos h,if_neg h4]
theorem vr8{s:ByteArray}{l:Ast}{pl n:Nat}{ts:List (List UInt8)}{st:St}(h:¬st.tk.kind=28)(h4:st.tk.kind=27):qf2 s l pl (n+1) ts st=.ok (.un ⟨21,pl,0,[],[],ts⟩ l) (j4 s st):=by rw[qf2,if_neg h,if_pos h4]
theorem vk9{s:ByteArray}{l:Ast}{pl n:Nat}{ts:List (List UInt8)}{st:St}(h:¬st.tk.kind=28)(h4:¬st.tk.kind=27):qf2 s l pl (n+1) ts st=.err 2 st.place:=by rw[qf2,if_neg h,if_neg h4]
theorem textRow(w:World)(base:Nat)(hb:base<=w.heap.size)(t:List UInt8):(w.alloc (.cells #[.string (BS t)] 9)).ownsRow base 9 1 (.slice (some ⟨w.heap.size,0,none⟩) 1 1) [t].length (qa1 [t]):=
 ⟨rfl,.inr ⟨w.heap.size,1,#[.string (BS t)],rfl,hb,heap_alloc_new w _,Nat.le_refl _,by decide,rfl,rfl⟩⟩
end Go.Proofs.YtfkcaldjphakpaaGreatDoor
