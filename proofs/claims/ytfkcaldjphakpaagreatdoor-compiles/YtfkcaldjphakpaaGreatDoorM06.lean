/- between. -/
import Derived.Test.YtfkcaldjphakpaaGreatDoorM05
import Derived.Test.YtfkcaldjphakpaaGreatDoorM07
set_option maxHeartbeats 4000000
set_option maxRecDepth 100000
namespace Go.Proofs.YtfkcaldjphakpaaGreatDoor
open Go.RowKit Go.Proofs.Tryz
def qa9(s:ByteArray)(f:St->Res)(l:Ast)(st:St):Res:=if st.tk.kind=10 then(match f (j4 s st) with
  | .ok lo A6=>if A6.tk.kind=5 then(match f (j4 s A6) with
    | .ok hi G4=>.ok (.tri ⟨20,st.place,0,[],[],[]⟩ l lo hi) G4
    | .err en pl=>.err en pl) else .err 2 A6.place
  | .err en pl=>.err en pl) else .err 2 st.place
theorem IsNode.three{rb:Nat}{w:World}{x y z:Ast}{xv yv zv:Value}(hx:IsNode rb w xv x)(hy:IsNode rb w yv y)(hz:IsNode rb w zv z)(A1:rb<w.heap.size)(op place:Int):
  IsNode rb ((w.alloc (.cells #[xv,yv,zv] 67)).alloc (.cells #[.int .i64 op,.int .i64 place,.slice (some ⟨w.heap.size,0,none⟩) 3 3,.int .i64 0,.string ⟨#[]⟩,.string ⟨#[]⟩,.slice none 0 0] 102))
   (.pointer (some ⟨w.heap.size+1,0,none⟩)) (.tri ⟨op,place,0,[],[],[]⟩ x y z):=by
 have hk:Kept rb w ((w.alloc (.cells #[xv,yv,zv] 67)).alloc (.cells #[.int .i64 op,.int .i64 place,.slice (some ⟨w.heap.size,0,none⟩) 3 3,.int .i64 0,.string ⟨#[]⟩,.string ⟨#[]⟩,.slice none 0 0] 102)):=((Kept.refl rb w).alloc _).alloc _;refine⟨w.heap.size+1,w.heap.size,xv,yv,zv,rfl,⟨by omega,by simp,by simp,by simp,by simp,by simp,by simp[BS],by simp[BS],.slice none 0 0,by simp,.inl ⟨rfl,rfl⟩⟩,A1,by simp;omega, ?_, ?_, ?_,hx.kept hk,hy.kept hk,hz.kept hk⟩
 ·rw[World.cell?_alloc_past _ _ _ (by simp),World.cell?_alloc_at _ _ _ _ rfl];rfl
 ·rw[World.cell?_alloc_past _ _ _ (by simp),World.cell?_alloc_at _ _ _ _ rfl];rfl
 ·rw[World.cell?_alloc_past _ _ _ (by simp),World.cell?_alloc_at _ _ _ _ rfl];rfl
theorem ji5(rb:Nat)(s:ByteArray)(op:Nat)(f:St->Res)(hf:qm4 241 rb s op f)(l:Ast)(lv:Value)(w:World)(st:St)(h:Ready rb s w st)(ho:st.op=op)(hl:IsNode rb w lv l):
  Calls prog 270 #[.pointer (some ⟨rb,0,none⟩),lv] w (Gives rb s w op st.place (qa9 s f l st)):=by
 have H:=j3 h;have HF:=j3 hf;have A1:=h.lt;obtain⟨lb,rfl⟩:=hl.ptr;have HL:=j3 hl;clear hl hf
 by_cases h10:st.tk.kind=10
 ·rw[qa9,if_pos h10]
  have sA:=h.fine.le (by rw[h10];decide);have F7:=h.fine.next;have qR:=j3 h10;have R1:Hid (∀w1,Kept rb w w1->RdAt w1 rb s (j4 s st)->Ready rb s w1 (j4 s st)):=j3 λw1 hk hr=>h.kept hk hr F7
  have K8:(j4 s st).op=op:=ho;clear h h10 F7
  cases A4:f (j4 s st) with
  | err en pl=>
   have D5:=j3 A4;clear A4;go_enter func270,ntmps270
   go_wp2_with(first|(go_at_call_of 56 (Value.int IntKind.i64 10);refine(qd1 rb s st 10 _ (q9 H).size (q9 H).fine.after (q9 H).at' A1 (q9 H).err (q9 qR)).mono ?_;rintro e w1⟨rfl,A4,A0⟩;have C8:=A0.size;have n1:¬w1.heap.size=rb:=(by omega);have G0:=j3 ((q9 R1 _ A0 A4).allocd (.cells #[.int .i64 st.tk.kind,.int .i64 st.place,.int .i64 st.tk.num,.string (BS st.tk.str)] 91));have F3:=j3 (A0.alloc (.cells #[.int .i64 st.tk.kind,.int .i64 st.place,.int .i64 st.tk.num,.string (BS st.tk.str)] 91));clear A4 A0;simp only[tkV])|(go_at_call 241;refine(q9 HF _ (j4 s st) (q9 G0) K8).mono ?_;rintro e w2⟨A3,h2⟩;rw[q9 D5]at h2;subst h2;simp only[qd2]))
   exact⟨rfl,(q9 F3).trans A3,rfl⟩
  | ok lo A6=>
   have D5:=j3 A4;clear A4
   by_cases h5:A6.tk.kind=5
   ·simp only[if_pos h5]
    have H5:=j3 h5;have QA:Hid (A6.tk.kind≠0):=j3 (by rw[h5];decide);clear h5
    cases A5:f (j4 s A6) with
    | err en pl=>
     have D6:=j3 A5;clear A5;go_enter func270,ntmps270
     go_wp2_with(first|(go_at_call_of 56 (Value.int IntKind.i64 10);refine(qd1 rb s st 10 _ (q9 H).size (q9 H).fine.after (q9 H).at' A1 (q9 H).err (q9 qR)).mono ?_;rintro e w1⟨rfl,A4,A0⟩;have C8:=A0.size;have n1:¬w1.heap.size=rb:=(by omega);have G0:=j3 ((q9 R1 _ A0 A4).allocd (.cells #[.int .i64 st.tk.kind,.int .i64 st.place,.int .i64 st.tk.num,.string (BS st.tk.str)] 91));have F3:=j3 (A0.alloc (.cells #[.int .i64 st.tk.kind,.int .i64 st.place,.int .i64 st.tk.num,.string (BS st.tk.str)] 91));clear A4 A0;simp only[tkV])|(go_at_call 241;refine(q9 HF _ (j4 s st) (q9 G0) K8).mono ?_;rintro e w2⟨A3,h2⟩;rw[q9 D5]at h2;obtain⟨v2,rfl,G8,A5,H8,I2,S8⟩:=h2;obtain⟨vb,rfl⟩:=G8.ptr;have F8:w1.heap.size<w2.heap.size:=(by have:=A3.size;simp at this;omega);have q2:w2.cell? ⟨w1.heap.size,1,none⟩=some (.int .i64 st.place):=((qe1 A3).1 _ 1 (by simp) n1).trans (by simp);have P5:=j3 ((q9 F3).trans A3);have I1:=j3 ((q9 H).kept ((q9 F3).trans A3) A5 H8);have G8:=j3 G8;have H8:=j3 H8;clear A5 A3)|(go_at_call_of 56 (Value.int IntKind.i64 5);refine(qd1 rb s A6 5 _ (q9 I1).size (q9 I1).fine.after (q9 I1).at' (q9 I1).lt (q9 I1).err (q9 H5)).mono ?_;rintro e w3⟨rfl,B8,A9⟩;have Q9:w1.heap.size<w3.heap.size:=(by have:=A9.size;omega);have q3:w3.cell? ⟨w1.heap.size,1,none⟩=some (.int .i64 st.place):=((qe1 A9).1 _ 1 F8 n1).trans q2;have bW:=j3 ((q9 G8).kept A9);have R9:=j3 ((q9 P5).trans A9);have kN:=j3 ((q9 I1).stepped A9 B8);clear B8 A9;simp only[tkV]))
     have Y8:(j4 s A6).op=op:=I2
     go_region_with(first|(go_at_call 241;refine(q9 HF _ (j4 s A6) (q9 kN) Y8).mono ?_;rintro e w4⟨D0,h4⟩;rw[q9 D6]at h4;subst h4;refine gone (w:=w4) ⟨rfl,(q9 R9).trans ((Kept.refl rb w3).drew.trans D0),rfl⟩ ?_))
     all_goals trivial
    | ok hi G4=>
     have D6:=j3 A5;clear A5;go_enter func270,ntmps270
     go_wp2_with(first|(go_at_call_of 56 (Value.int IntKind.i64 10);refine(qd1 rb s st 10 _ (q9 H).size (q9 H).fine.after (q9 H).at' A1 (q9 H).err (q9 qR)).mono ?_;rintro e w1⟨rfl,A4,A0⟩;have C8:=A0.size;have n1:¬w1.heap.size=rb:=(by omega);have G0:=j3 ((q9 R1 _ A0 A4).allocd (.cells #[.int .i64 st.tk.kind,.int .i64 st.place,.int .i64 st.tk.num,.string (BS st.tk.str)] 91));have F3:=j3 (A0.alloc (.cells #[.int .i64 st.tk.kind,.int .i64 st.place,.int .i64 st.tk.num,.string (BS st.tk.str)] 91));clear A4 A0;simp only[tkV])|(go_at_call 241;refine(q9 HF _ (j4 s st) (q9 G0) K8).mono ?_;rintro e w2⟨A3,h2⟩;rw[q9 D5]at h2;obtain⟨v2,rfl,G8,A5,H8,I2,S8⟩:=h2;obtain⟨vb,rfl⟩:=G8.ptr;have F8:w1.heap.size<w2.heap.size:=(by have:=A3.size;simp at this;omega);have q2:w2.cell? ⟨w1.heap.size,1,none⟩=some (.int .i64 st.place):=((qe1 A3).1 _ 1 (by simp) n1).trans (by simp);have P5:=j3 ((q9 F3).trans A3);have I1:=j3 ((q9 H).kept ((q9 F3).trans A3) A5 H8);have G8:=j3 G8;have H8:=j3 H8;clear A5 A3)|(go_at_call_of 56 (Value.int IntKind.i64 5);refine(qd1 rb s A6 5 _ (q9 I1).size (q9 I1).fine.after (q9 I1).at' (q9 I1).lt (q9 I1).err (q9 H5)).mono ?_;rintro e w3⟨rfl,B8,A9⟩;have Q9:w1.heap.size<w3.heap.size:=(by have:=A9.size;omega);have q3:w3.cell? ⟨w1.heap.size,1,none⟩=some (.int .i64 st.place):=((qe1 A9).1 _ 1 F8 n1).trans q2;have bW:=j3 ((q9 G8).kept A9);have R9:=j3 ((q9 P5).trans A9);have kN:=j3 ((q9 I1).stepped A9 B8);clear B8 A9;simp only[tkV]))
     have Y8:(j4 s A6).op=op:=I2
     go_region_held3 (λw'=>w'.cell? ⟨w1.heap.size,1,none⟩=some (.int .i64 st.place)) (go_keep) (first|(go_at_call 241;refine(q9 HF _ (j4 s A6) (q9 kN) Y8).mono ?_;rintro e w4⟨D0,h4⟩;rw[q9 D6]at h4;obtain⟨v4,rfl,fO,D9,cA,gK,fN⟩:=h4;obtain⟨vc,rfl⟩:=fO.ptr;have q4:w4.cell? ⟨w1.heap.size,1,none⟩=some (.int .i64 st.place):=((qe1 D0).1 _ 1 Q9 n1).trans q3;have ED:w1.heap.size<w4.heap.size:=Nat.lt_of_lt_of_le Q9 D0.size;have D0:=j3 D0;have fO:=j3 fO;have D9:=j3 D9;have cA:=j3 cA))
     go_wp2_with fail
     go_ret;have oL:=(q9 R9).trans ((Kept.refl rb w3).drew.trans (q9 D0));have V7:rb<w4.heap.size:=Nat.lt_of_lt_of_le A1 oL.size;refine⟨(oL.alloc _).alloc _,_,rfl,IsNode.three ((q9 HL).kept oL) ((q9 bW).kept ((Kept.refl rb w3).drew.trans (q9 D0))) (q9 fO) V7 20 st.place,((q9 D9).allocd _ V7).allocd _ (by simp;omega),q9 cA,gK, ?_⟩;have h1:=(q9 H8).le (q9 QA);omega
   ·simp only[if_neg h5]
    have H5:=j3 h5;clear h5;go_enter func270,ntmps270
    go_wp2_with(first|(go_at_call_of 56 (Value.int IntKind.i64 10);refine(qd1 rb s st 10 _ (q9 H).size (q9 H).fine.after (q9 H).at' A1 (q9 H).err (q9 qR)).mono ?_;rintro e w1⟨rfl,A4,A0⟩;have C8:=A0.size;have n1:¬w1.heap.size=rb:=(by omega);have G0:=j3 ((q9 R1 _ A0 A4).allocd (.cells #[.int .i64 st.tk.kind,.int .i64 st.place,.int .i64 st.tk.num,.string (BS st.tk.str)] 91));have F3:=j3 (A0.alloc (.cells #[.int .i64 st.tk.kind,.int .i64 st.place,.int .i64 st.tk.num,.string (BS st.tk.str)] 91));clear A4 A0;simp only[tkV])|(go_at_call 241;refine(q9 HF _ (j4 s st) (q9 G0) K8).mono ?_;rintro e w2⟨A3,h2⟩;rw[q9 D5]at h2;obtain⟨v2,rfl,G8,A5,H8,I2,S8⟩:=h2;obtain⟨vb,rfl⟩:=G8.ptr;have F8:w1.heap.size<w2.heap.size:=(by have:=A3.size;simp at this;omega);have q2:w2.cell? ⟨w1.heap.size,1,none⟩=some (.int .i64 st.place):=((qe1 A3).1 _ 1 (by simp) n1).trans (by simp);have P5:=j3 ((q9 F3).trans A3);have I1:=j3 ((q9 H).kept ((q9 F3).trans A3) A5 H8);have G8:=j3 G8;have H8:=j3 H8;clear A5 A3)|(go_at_call_of 56 (Value.int IntKind.i64 5);refine(qn0 rb s A6 5 _ (q9 I1).at' (q9 I1).lt (q9 H5)).mono ?_;rintro e w3⟨rfl,A9⟩;simp only[qd2]))
    exact⟨rfl,(q9 P5).trans A9,rfl⟩
 ·rw[qa9,if_neg h10]
  have qR:=j3 h10;clear h h10;go_enter func270,ntmps270
  go_wp2_with(go_at_call 56;refine(qn0 rb s st 10 _ (q9 H).at' A1 (q9 qR)).mono ?_;rintro e w1⟨rfl,A0⟩;simp only[qd2])
  exact⟨rfl,A0,rfl⟩
def vz8(K:Nat)(rb:Nat)(s:ByteArray)(op:Nat)(k:Int)(g:Ast->St->Res):Prop:=
 ∀(w:World) (st:St) (l:Ast) (lv:Value),Ready rb s w st->st.op=op->IsNode rb w lv l->st.tk.kind=k->Calls prog K #[.pointer (some ⟨rb,0,none⟩),lv] w (Gives rb s w op st.place (g l st))
def qb6(s:ByteArray)(f:St->Res)(gI gL:Ast->St->Res)(bare:Bool)(l:Ast)(st:St):Res:=
 if st.tk.kind=11/\bare=true then gI l st else if st.tk.kind=12/\bare=true then gL l st else qa9 s f l st
theorem vm4(rb:Nat)(s:ByteArray)(op:Nat)(f:St->Res)(gI gL:Ast->St->Res)(hf:qm4 241 rb s op f)(hI:vz8 268 rb s op 11 gI)(hL:vz8 269 rb s op 12 gL)
  (bare:Bool) (w:World) (st:St) (l:Ast) (lv:Value) (h:Ready rb s w st) (ho:st.op=op) (hl:IsNode rb w lv l) :
  Calls prog 243 #[.pointer (some ⟨rb,0,none⟩),lv,.bool bare] w (Gives rb s w op st.place (qb6 s f gI gL bare l st)):=by
 obtain⟨c0,c1,c2,c3,c4,c5,c6,fz⟩:=h.at';have BET:=j3 (ji5 rb s op f hf l lv w st h ho hl);have INN:Hid (st.tk.kind=11->Calls prog 268 #[.pointer (some ⟨rb,0,none⟩),lv] w (Gives rb s w op st.place (gI l st))):=j3 λhk=>hI w st l lv h ho hl hk
 have LIK:Hid (st.tk.kind=12->Calls prog 269 #[.pointer (some ⟨rb,0,none⟩),lv] w (Gives rb s w op st.place (gL l st))):=j3 λhk=>hL w st l lv h ho hl hk
 clear h hl hf hI hL
 by_cases L6:st.tk.kind=11
 ·have fW:(st.tk.kind==11)=true:=by rw[L6];rfl
  have dM:(st.tk.kind==12)=false:=by rw[L6];rfl
  have HK:=j3 L6
  cases bare with
  | false=>
   rw[qb6,if_neg (by simp),if_neg (by simp)];clear L6;go_enter func243,ntmps243
   go_wp2_with(go_at_call 270;refine(q9 BET).mono ?_;rintro e w' hg;rcases hg.cases with⟨v,rfl,hg⟩|⟨en,pl,rfl,hg⟩;rotate_left;(exact⟨rfl,hg⟩);have HG:=j3 hg;clear hg)
   go_ret;exact q9 HG
  | true=>
   rw[qb6,if_pos ⟨L6,rfl⟩];clear L6;go_enter func243,ntmps243
   go_wp2_with(go_at_call 268;refine(q9 INN (q9 HK)).mono ?_;rintro e w' hg;rcases hg.cases with⟨v,rfl,hg⟩|⟨en,pl,rfl,hg⟩;rotate_left;(exact⟨rfl,hg⟩);have HG:=j3 hg;clear hg)
   go_ret;exact q9 HG
 ·have fW:(st.tk.kind==11)=false:=beq_eq_false_iff_ne.2 L6
  by_cases F9:st.tk.kind=12
  ·have dM:(st.tk.kind==12)=true:=by rw[F9];rfl
   have HK:=j3 F9
   cases bare with
   | false=>
    rw[qb6,if_neg (by simp),if_neg (by simp)];clear L6 F9;go_enter func243,ntmps243
    go_wp2_with(go_at_call 270;refine(q9 BET).mono ?_;rintro e w' hg;rcases hg.cases with⟨v,rfl,hg⟩|⟨en,pl,rfl,hg⟩;rotate_left;(exact⟨rfl,hg⟩);have HG:=j3 hg;clear hg)
    go_ret;exact q9 HG
   | true=>
    rw[qb6,if_neg (λh=>L6 h.1),if_pos ⟨F9,rfl⟩];clear L6 F9;go_enter func243,ntmps243
    go_wp2_with(go_at_call 269;refine(q9 LIK (q9 HK)).mono ?_;rintro e w' hg;rcases hg.cases with⟨v,rfl,hg⟩|⟨en,pl,rfl,hg⟩;rotate_left;(exact⟨rfl,hg⟩);have HG:=j3 hg;clear hg)
    go_ret;exact q9 HG
  ·have dM:(st.tk.kind==12)=false:=beq_eq_false_iff_ne.2 F9
   rw[qb6,if_neg (λh=>L6 h.1),if_neg (λh=>F9 h.1)];clear L6 F9
   cases bare with
   | false=>
    go_enter func243,ntmps243
    go_wp2_with(go_at_call 270;refine(q9 BET).mono ?_;rintro e w' hg;rcases hg.cases with⟨v,rfl,hg⟩|⟨en,pl,rfl,hg⟩;rotate_left;(exact⟨rfl,hg⟩);have HG:=j3 hg;clear hg)
    go_ret;exact q9 HG
   | true=>
    go_enter func243,ntmps243
    go_wp2_with(go_at_call 270;refine(q9 BET).mono ?_;rintro e w' hg;rcases hg.cases with⟨v,rfl,hg⟩|⟨en,pl,rfl,hg⟩;rotate_left;(exact⟨rfl,hg⟩);have HG:=j3 hg;clear hg)
    go_ret;exact q9 HG
theorem vm1:(prog.info? 9).map (λi=>(i.zero,i.size,i.bytes))=some (some (.string ⟨#[]⟩),1,16):=by kernel_rfl
theorem vw6{base e size n:Nat}{w:World}{v:Value}{xs:List Value}(h:w.ownsRow base e size v n xs):∃a m c,v=.slice a m c:=by
 rcases h.2 with⟨rfl,_⟩|⟨g,cap,cur,rfl,_⟩
 ·exact⟨_,_,_,rfl⟩
 ·exact⟨_,_,_,rfl⟩
theorem in_more{rb B:Nat}{s:ByteArray}{w wr w5 w6:World}{sl2:St}{v v':Value}{ts:List (List UInt8)}{t:List UInt8}{o:Obj}{pv:Value}
  (G3:w6.ownsRow (B+1) 9 1 v' (ts.length+1) (qa1 ts++[.string (BS t)])) (B7:(w5.alloc o).grownBy w6 v.ownBlock) (C2:wr.ownsRow (B+1) 9 1 v ts.length (qa1 ts))
  (hr:RdAt w5 rb s sl2) (A1:rb<w5.heap.size) (hk:Kept rb w wr) (M6:Kept rb wr w5) (cT:wr.cell? ⟨B,1,none⟩=some pv) (wD:B<wr.heap.size) (hG:rb<B) (hB:w.heap.size<=B) :
  w6.ownsRow (B+1) 9 1 v' (ts++[t]).length (qa1 (ts++[t]))/\RdAt w6 rb s sl2/\Kept rb w w6/\w6.cell? ⟨B,1,none⟩=some pv/\B<w6.heap.size:=by
 have J3:∀k,v.ownBlock=some k->B+1<=k:=λk l8=>(C2.lt k l8).1
 have hz:=M6.size;have hg:=B7.size;simp at hg;refine⟨by rw[List.length_append,qa1,List.map_append];exact G3,(hr.allocd o A1).grown B7 (by simp;omega) (λk l8=>by have:=J3 k l8;omega),((hk.trans M6).alloc o).grown B7 (λk l8=>by have:=J3 k l8;omega), ?_,by omega⟩;refine B7.cell ?_ (λe=>by have:=J3 B e.symm;omega);rw[World.cell?_alloc_past _ _ _ (by omega)];exact((qe1 M6).1 B 1 wD (by omega)).trans cT
theorem in_reads(rb:Nat)(s:ByteArray)(op:Nat)(hs:s.size<=200):vz8 268 rb s op 11 (qg7 s):=by
 intro w st l lv h ho hl L6;have H:=j3 h;have A1:=h.lt;have sA:=h.fine.lt (by rw[L6];decide);have F7:=h.fine.next;have DG:=j3 L6;obtain⟨lb,rfl⟩:=hl.ptr;have HL:=j3 hl;have RK:Hid (∀w1 A6,Fine s A6->Kept rb w w1->RdAt w1 rb s A6->Ready rb s w1 A6):=j3 λw1 A6 hf hk hr=>h.kept hk hr hf
 have cG:=j3 F7;obtain⟨i0,hi,I8,gB,gA⟩:=info_parts vm1;clear h hl L6
 by_cases S9:(j4 s st).tk.kind=26
 ·rw[qg7,if_pos S9]
  have yK:=F7.lt (by rw[S9];decide);have bR:=j3 F7.next;have wX:=j3 S9;clear S9
  by_cases h4:(j4 s (j4 s st)).tk.kind=4
  ·rw[if_pos h4]
   have rZ:=F7.next.lt (by rw[h4];decide);have wU:=j3 F7.next.next;have H4:=j3 h4;have FS:=λb=>jb7 (j4 s (j4 s st)).tk.kind (j4 s (j4 s st)).place (j4 s (j4 s st)).tk.num b
   clear h4 F7;obtain⟨R,hR⟩:∃r,qf2 s l st.place (s.size+1) [(j4 s (j4 s st)).tk.str] (j4 s (j4 s (j4 s st)))=r:=⟨_,rfl⟩;rw[hR];have HR:=j3 hR;clear hR;go_enter func268,ntmps268
   go_wp2_with(first|(go_at_call_of 56 (Value.int IntKind.i64 11);refine(qd1 rb s st 11 _ (q9 H).size (q9 H).fine.after (q9 H).at' A1 (q9 H).err (q9 DG)).mono ?_;rintro e w1⟨rfl,A4,A0⟩;have C8:=A0.size;have n1:¬w1.heap.size=rb:=(by omega);have G0:=j3 ((q9 RK _ _ (q9 cG) A0 A4).allocd (.cells #[.int .i64 st.tk.kind,.int .i64 st.place,.int .i64 st.tk.num,.string (BS st.tk.str)] 91));have F3:=j3 (A0.alloc (.cells #[.int .i64 st.tk.kind,.int .i64 st.place,.int .i64 st.tk.num,.string (BS st.tk.str)] 91));clear A4 A0;simp only[tkV])|(go_at_call_of 56 (Value.int IntKind.i64 26);refine(qd1 rb s (j4 s st) 26 _ (q9 G0).size (q9 G0).fine.after (q9 G0).at' (q9 G0).lt (q9 G0).err (q9 wX)).mono ?_;rintro e w2⟨rfl,A5,A3⟩;have F8:w1.heap.size<w2.heap.size:=(by have:=A3.size;simp at this;omega);have q2:w2.cell? ⟨w1.heap.size,1,none⟩=some (.int .i64 st.place):=((qe1 A3).1 _ 1 (by simp) n1).trans (by simp);have P5:=j3 ((q9 F3).trans A3);have I1:=j3 (q9 RK _ _ (q9 bR) (q9 P5) A5);clear A5 A3;simp only[tkV])|(go_at_call_of 56 (Value.int IntKind.i64 4);refine(qd1 rb s (j4 s (j4 s st)) 4 _ (q9 I1).size (q9 I1).fine.after (q9 I1).at' (q9 I1).lt (q9 I1).err (q9 H4)).mono ?_;rintro e w3⟨rfl,B8,A9⟩;have Q9:w1.heap.size<w3.heap.size:=(by have:=A9.size;omega);have q3:w3.cell? ⟨w1.heap.size,1,none⟩=some (.int .i64 st.place):=((qe1 A9).1 _ 1 F8 n1).trans q2;have R9:=j3 ((q9 P5).trans A9);have kN:=j3 (q9 RK _ _ (q9 wU) (q9 R9) B8);clear B8 A9;simp only[tkV]))
   go_loopw [6] (λv wr=>∃(n:Nat) (ts:List (List UInt8)) (sl:St),Hid (R=qf2 s l st.place n ts sl)/\s.size<n+sl.place/\Hid (wr.ownsRow (w1.heap.size+1) 9 1 v ts.length (qa1 ts))/\Hid (Ready rb s wr sl)/\sl.op=op/\ts.length<=sl.place/\st.place<=sl.place/\Hid (Kept rb w wr)/\wr.cell? ⟨w1.heap.size,1,none⟩=some (.int .i64 st.place)/\w1.heap.size<wr.heap.size) (λv wr=>s.size+1 - plOf wr rb)
   case atStart=>exact⟨s.size+1,_,_,j3 (q9 HR).symm,by omega,j3 (textRow _ _ (by omega) _),j3 ((q9 kN).allocd _),ho,by simp;omega,by omega,j3 ((q9 R9).alloc _),by rw[World.cell?_alloc_past _ _ _ (by first|omega|(simp;omega))];exact q3,by simp;omega⟩
   case round=>
    obtain⟨n,ts,sl,hR,hn,C2,C9,eF,U2,T8,hk,cT,wD⟩:=hrel;have E6:=(q9 C9).fine;have pW:=E6.place;obtain⟨m,rfl⟩:∃m,n=m+1:=⟨n - 1,by omega⟩;have P6:=(q9 C9).lt;have BN:=j3 (vw8 (q9 C9).at');have hG:rb<w1.heap.size+1:=by omega
    have CH:=j3 E6.next;have uQ:=j3 E6.next.next
    by_cases h28:sl.tk.kind=28
    ·have lG:=j3 h28
     have bX:=E6.lt (by rw[h28];decide)
     by_cases h4:(j4 s sl).tk.kind=4
     ·have H4:=j3 h4
      have LZ:=E6.next.lt (by rw[h4];decide);have MN:=E6.next.next.place;have K5:Hid (R=qf2 s l st.place m (ts++[(j4 s sl).tk.str]) (j4 s (j4 s sl))):=j3 (by rw[q9 hR,vk8 h28 h4]);have FS:=λb=>jb7 (j4 s sl).tk.kind (j4 s sl).place (j4 s sl).tk.num b
      clear hR h28 h4 E6
      go_wp2_with(first|(go_at_call 267;refine(qy8 rb s sl 28 _ (q9 C9).size (q9 C9).fine.after (q9 C9).at' P6 (q9 C9).err (q9 lG)).mono ?_;rintro e w4⟨rfl,D9,D0⟩;have D0:=j3 D0;have mD:=j3 ((q9 C9).kept (q9 D0) D9 (q9 CH));clear D9)|(go_at_call_of 56 (Value.int IntKind.i64 4);refine(qd1 rb s (j4 s sl) 4 _ (q9 mD).size (q9 mD).fine.after (q9 mD).at' (q9 mD).lt (q9 mD).err (q9 H4)).mono ?_;rintro e w5⟨rfl,r9,M6⟩;have M6:=j3 ((q9 D0).trans M6);have GB:=j3 ((q9 C9).kept (q9 M6) r9 (q9 uQ));clear r9;have lH:=(q9 M6).size;have dF:=vw5 (q9 C2) (q9 M6) hG;simp only[tkV])|(at_builtin;refine wpList_append_own _ rfl _ _ 62 rfl (w1.heap.size+1) 9 i0 (.string ⟨#[]⟩) 1 16 underlying62 hi I8 gB gA rfl (by decide) _ _ _ rfl (dF.alloc _) ⟨w5.heap.size,0,none⟩ 1 1 [.string (BS (j4 s sl).tk.str)] rfl rfl ?c1 ?c2 ?c3 ?c4 ?c5 ?_))
      case c1=>
       intro j u hj
       match j,hj with
       | 0,hj=>simp at hj;subst hj;simp[Addr.add]
       | j+1,hj=>simp at hj
      case c2=>intro u hu;simp at hu;subst hu;rfl
      case c3=>unfold maxLen;omega
      case c4=>omega
      case c5=>simp;omega
      ·intro v' w6 G3 B7 _
       have G:=in_more G3 B7 (q9 C2) (q9 GB).at' (q9 GB).lt (q9 hk) (q9 M6) cT wD (by omega) (by omega);clear G3 B7 C2 dF;have pA:=j3 (vw8 G.2.1);have G:=j3 G
       go_wp2_with fail
       go_roundw
       case rel=>exact⟨m,_,_,K5,by omega,j3 (q9 G).1,j3 (q9 RK _ _ (q9 uQ) (q9 G).2.2.1 (q9 G).2.1),eF,by simp;omega,by omega,j3 (q9 G).2.2.1,(q9 G).2.2.2.1,(q9 G).2.2.2.2⟩
       case measure=>rw[q9 BN,q9 pA];omega
     ·have H4:=j3 h4
      have K5:Hid (R=.err 2 (j4 s sl).place):=j3 (by rw[q9 hR,vr7 h28 h4]);clear hR h28 h4 E6
      go_wp2_with(first|(go_at_call 267;refine(qy8 rb s sl 28 _ (q9 C9).size (q9 C9).fine.after (q9 C9).at' P6 (q9 C9).err (q9 lG)).mono ?_;rintro e w4⟨rfl,D9,D0⟩;have D0:=j3 D0;have mD:=j3 ((q9 C9).kept (q9 D0) D9 (q9 CH));clear D9)|(go_at_call_of 56 (Value.int IntKind.i64 4);refine(qn0 rb s (j4 s sl) 4 _ (q9 mD).at' (q9 mD).lt (q9 H4)).mono ?_;rintro e w5⟨rfl,M6⟩;simp only[qd2]))
      rw[q9 K5];exact⟨rfl,((q9 hk).trans (q9 D0)).trans M6,rfl⟩
    ·have lG:=j3 h28
     by_cases h27:sl.tk.kind=27
     ·have pK:=j3 h27
      have bX:=E6.lt (by rw[h27];decide);have K5:Hid (R=.ok (.un ⟨21,st.place,0,[],[],ts⟩ l) (j4 s sl)):=j3 (by rw[q9 hR,vr8 h28 h27]);clear hR h28 h27 E6;obtain⟨va,vn,vc,rfl⟩:=vw6 (q9 C2)
      go_wp2_with(first|(go_at_call 267;refine(vp5 rb s sl 28 _ (q9 C9).at' (q9 lG)).mono ?_;rintro e w4⟨rfl,rfl⟩)|(go_at_call_of 56 (Value.int IntKind.i64 27);refine(qd1 rb s sl 27 _ (q9 C9).size (q9 C9).fine.after (q9 C9).at' P6 (q9 C9).err (q9 pK)).mono ?_;rintro e w5⟨rfl,r9,M6⟩;have q5:w5.cell? ⟨w1.heap.size,1,none⟩=some (.int .i64 st.place):=((qe1 M6).1 _ 1 wD n1).trans cT;have lH:=M6.size;have M6:=j3 M6;have r9:=j3 r9;simp only[tkV]))
      go_ret;rw[q9 K5];have GG:=(q9 hk).trans (q9 M6);have kA:rb<w5.heap.size:=by omega
      refine⟨(GG.alloc _).alloc _,_,rfl,IsNode.texted ((q9 HL).kept GG) kA ((TextsAt.of_row (q9 C2) hG).kept (q9 M6)) 21 st.place [] [],((q9 r9).allocd _ kA).allocd _ (by simp;omega),q9 CH,eF,by omega⟩
     ·have pK:=j3 h27
      have K5:Hid (R=.err 2 sl.place):=j3 (by rw[q9 hR,vk9 h28 h27]);clear hR h28 h27 E6
      go_wp2_with(first|(go_at_call 267;refine(vp5 rb s sl 28 _ (q9 C9).at' (q9 lG)).mono ?_;rintro e w4⟨rfl,rfl⟩)|(go_at_call_of 56 (Value.int IntKind.i64 27);refine(qn0 rb s sl 27 _ (q9 C9).at' P6 (q9 pK)).mono ?_;rintro e w5⟨rfl,M6⟩;simp only[qd2]))
      rw[q9 K5];exact⟨rfl,(q9 hk).trans M6,rfl⟩
  ·rw[if_neg h4]
   have H4:=j3 h4;clear h4 F7;go_enter func268,ntmps268
   go_wp2_with(first|(go_at_call_of 56 (Value.int IntKind.i64 11);refine(qd1 rb s st 11 _ (q9 H).size (q9 H).fine.after (q9 H).at' A1 (q9 H).err (q9 DG)).mono ?_;rintro e w1⟨rfl,A4,A0⟩;have C8:=A0.size;have n1:¬w1.heap.size=rb:=(by omega);have G0:=j3 ((q9 RK _ _ (q9 cG) A0 A4).allocd (.cells #[.int .i64 st.tk.kind,.int .i64 st.place,.int .i64 st.tk.num,.string (BS st.tk.str)] 91));have F3:=j3 (A0.alloc (.cells #[.int .i64 st.tk.kind,.int .i64 st.place,.int .i64 st.tk.num,.string (BS st.tk.str)] 91));clear A4 A0;simp only[tkV])|(go_at_call_of 56 (Value.int IntKind.i64 26);refine(qd1 rb s (j4 s st) 26 _ (q9 G0).size (q9 G0).fine.after (q9 G0).at' (q9 G0).lt (q9 G0).err (q9 wX)).mono ?_;rintro e w2⟨rfl,A5,A3⟩;have F8:w1.heap.size<w2.heap.size:=(by have:=A3.size;simp at this;omega);have q2:w2.cell? ⟨w1.heap.size,1,none⟩=some (.int .i64 st.place):=((qe1 A3).1 _ 1 (by simp) n1).trans (by simp);have P5:=j3 ((q9 F3).trans A3);have I1:=j3 (q9 RK _ _ (q9 bR) (q9 P5) A5);clear A5 A3;simp only[tkV])|(go_at_call_of 56 (Value.int IntKind.i64 4);refine(qn0 rb s (j4 s (j4 s st)) 4 _ (q9 I1).at' (q9 I1).lt (q9 H4)).mono ?_;rintro e w3⟨rfl,A9⟩;simp only[qd2]))
   exact⟨rfl,(q9 P5).trans A9,rfl⟩
 ·rw[qg7,if_neg S9]
  have wX:=j3 S9;clear S9 F7;go_enter func268,ntmps268
  go_wp2_with(first|(go_at_call_of 56 (Value.int IntKind.i64 11);refine(qd1 rb s st 11 _ (q9 H).size (q9 H).fine.after (q9 H).at' A1 (q9 H).err (q9 DG)).mono ?_;rintro e w1⟨rfl,A4,A0⟩;have C8:=A0.size;have n1:¬w1.heap.size=rb:=(by omega);have G0:=j3 ((q9 RK _ _ (q9 cG) A0 A4).allocd (.cells #[.int .i64 st.tk.kind,.int .i64 st.place,.int .i64 st.tk.num,.string (BS st.tk.str)] 91));have F3:=j3 (A0.alloc (.cells #[.int .i64 st.tk.kind,.int .i64 st.place,.int .i64 st.tk.num,.string (BS st.tk.str)] 91));clear A4 A0;simp only[tkV])|(go_at_call_of 56 (Value.int IntKind.i64 26);refine(qn0 rb s (j4 s st) 26 _ (q9 G0).at' (q9 G0).lt (q9 wX)).mono ?_;rintro e w2⟨rfl,A3⟩;simp only[qd2]))
  exact⟨rfl,(q9 F3).trans A3,rfl⟩
theorem vn6:(l:List UInt8)->∀r,qe2 l=some r->r.1.length<=l.length
 | [],r,h=>by simp[qe2]at h
 | [c],r,h=>by
  simp only[qe2]at h;split at h
  ·injection h with h;subst h;simp
  ·cases h
 | c::d::t,r,h=>by
  simp only[qe2]at h
  split at h
  ·split at h
   ·cases hq:qe2 t with
    | none=>rw[hq]at h;cases h
    | some q=>rw[hq]at h;injection h with h;subst h;have:=vn6 t q hq;simp;omega
   ·injection h with h;subst h;simp
  ·cases hq:qe2 (d::t) with
   | none=>rw[hq]at h;cases h
   | some q=>rw[hq]at h;injection h with h;subst h;have:=vn6 (d::t) q hq;simp at *;omega
theorem jk4(l:List UInt8):(qd6 l).str.length<=l.length:=by
 unfold qd6
 split
 ·simp[j7]
 ·rename_i c t
  split
  ·unfold qh4;split
   ·simp only[List.length_take];omega
   ·simp[j7]
  split
  ·unfold qp5;split<;>simp[j7]
  split
  ·unfold qf5;split
   ·rename_i r hr
    have:=vn6 _ _ hr;rw[List.length_drop]at this;show r.1.length<=_;omega
   ·simp[j7]
  ·simp[j7]
theorem vg1(s:ByteArray)(st:St):(j4 s st).tk.str.length<=s.size:=by
 show(qc0 s.data.toList st.after).str.length<=s.size;unfold qc0
 split
 ·have:=jk4 (s.data.toList.drop (qc2 s.data.toList st.after))
  rw[List.length_drop,qa5]at this;omega
 ·simp[j7]
inductive ERes where
 | ok (str:List UInt8) (st:St)
 | err (pl:Int)
def qq3(s:ByteArray)(ft:Tk)(fp:Nat)(st:St):ERes:=
 if st.tk.kind=4 then(if st.tk.str.length=1 then(if(qs5 st.tk.str ft.str).isSome=true then .ok st.tk.str (j4 s st) else .err fp) else .err st.place) else .err st.place
def EscEnds(rb:Nat)(s:ByteArray)(w:World)(r:ERes)(e:Ending)(w':World):Prop:=
 Kept rb w w'/\match r with
 | .ok str st=>e=.returned (.string (BS str))/\RdAt w' rb s st
 | .err pl=>e=qd2 2 pl
theorem vr6(rb:Nat)(s:ByteArray)(ft:Tk)(fp:Nat)(hft:ft.str.length<=200)(w:World)(st:St)(h:Ready rb s w st):
  Calls prog 302 #[.pointer (some ⟨rb,0,none⟩),tkV ft fp] w (EscEnds rb s w (qq3 s ft fp st)):=by
 have H:=j3 h;have HA:=j3 (h.allocd (.cells #[.int .i64 ft.kind,.int .i64 fp,.int .i64 ft.num,.string (BS ft.str)] 91));have A1:=h.lt;have n0:¬w.heap.size=rb:=by omega
 have hz:=qc1 st.tk.str;have M3:(BS ft.str).size<=200:=by rw[qc1];exact hft
 clear h;simp only[tkV]
 by_cases h4:st.tk.kind=4
 ·rw[qq3,if_pos h4]
  have H4:=j3 h4;clear h4
  by_cases h1:st.tk.str.length=1
  ·rw[if_pos h1]
   have C8:(BS st.tk.str).size=1:=by omega
   have KO:(((BS st.tk.str).size:Int) != 1)=false:=by rw[C8];rfl
   clear hz h1 C8;have VAL:=j3 (λw=>valid_any (BS ft.str) (BS st.tk.str) M3 w)
   cases hv:(qs5 st.tk.str ft.str).isSome with
   | true=>
    have HV:Hid ((qs5 (BS st.tk.str).data.toList (BS ft.str).data.toList).isSome=true):=j3 (by rw[qp4,qp4];exact hv);rw[if_pos rfl];clear hv;go_enter func302,ntmps302
    go_wp2_with(first|(go_at_call 56;refine(qd1 rb s st 4 _ (q9 H).size (q9 H).fine.after (q9 HA).at' (q9 HA).lt (q9 HA).err (q9 H4)).mono ?_;rintro e w1⟨rfl,A4,A0⟩;have C8:w.heap.size<w1.heap.size:=(by have:=A0.size;simp at this;omega);have n1:¬w1.heap.size=rb:=(by omega);have p1:w1.cell? ⟨w.heap.size,1,none⟩=some (.int .i64 fp):=((qe1 A0).1 _ 1 (by simp) n0).trans (by simp);have p3:w1.cell? ⟨w.heap.size,3,none⟩=some (.string (BS ft.str)):=((qe1 A0).1 _ 3 (by simp) n0).trans (by simp);have F3:=j3 ((((Kept.refl rb w).alloc (.cells #[.int .i64 ft.kind,.int .i64 fp,.int .i64 ft.num,.string (BS ft.str)] 91)).trans A0).alloc (.cells #[.int .i64 st.tk.kind,.int .i64 st.place,.int .i64 st.tk.num,.string (BS st.tk.str)] 91));have G0:=j3 (A4.allocd (.cells #[.int .i64 st.tk.kind,.int .i64 st.place,.int .i64 st.tk.num,.string (BS st.tk.str)] 91) (by omega));clear A4 A0;simp only[tkV])|(go_at_call 332;go_loud (refine(q9 VAL _).mono ?_;rintro e w2⟨rfl,B9⟩;rw[q9 HV];obtain⟨hc,hf⟩:=qb0 B9;have z2:=B9.size;have q1:w2.cell? ⟨w.heap.size,1,none⟩=some (.int .i64 fp):=(hc _ 1 (by simp;omega)).trans (by rw[World.cell?_alloc_past _ _ _ (by first|omega|(simp;omega))];exact p1);have q3:w2.cell? ⟨w1.heap.size,3,none⟩=some (.string (BS st.tk.str)):=(hc _ 3 (by simp)).trans (by simp);have B9:=j3 B9;clear hc hf)))
    go_ret;exact⟨(q9 F3).trans (Kept.of_below (q9 B9)),rfl,(q9 G0).below (q9 B9) (by simp;omega)⟩
   | false=>
    have HV:Hid ((qs5 (BS st.tk.str).data.toList (BS ft.str).data.toList).isSome=false):=j3 (by rw[qp4,qp4];exact hv);rw[if_neg (by simp)];clear hv;go_enter func302,ntmps302
    go_wp2_with(first|(go_at_call 56;refine(qd1 rb s st 4 _ (q9 H).size (q9 H).fine.after (q9 HA).at' (q9 HA).lt (q9 HA).err (q9 H4)).mono ?_;rintro e w1⟨rfl,A4,A0⟩;have C8:w.heap.size<w1.heap.size:=(by have:=A0.size;simp at this;omega);have n1:¬w1.heap.size=rb:=(by omega);have p1:w1.cell? ⟨w.heap.size,1,none⟩=some (.int .i64 fp):=((qe1 A0).1 _ 1 (by simp) n0).trans (by simp);have p3:w1.cell? ⟨w.heap.size,3,none⟩=some (.string (BS ft.str)):=((qe1 A0).1 _ 3 (by simp) n0).trans (by simp);have F3:=j3 ((((Kept.refl rb w).alloc (.cells #[.int .i64 ft.kind,.int .i64 fp,.int .i64 ft.num,.string (BS ft.str)] 91)).trans A0).alloc (.cells #[.int .i64 st.tk.kind,.int .i64 st.place,.int .i64 st.tk.num,.string (BS st.tk.str)] 91));have G0:=j3 (A4.allocd (.cells #[.int .i64 st.tk.kind,.int .i64 st.place,.int .i64 st.tk.num,.string (BS st.tk.str)] 91) (by omega));clear A4 A0;simp only[tkV])|(go_at_call 332;go_loud (refine(q9 VAL _).mono ?_;rintro e w2⟨rfl,B9⟩;rw[q9 HV];obtain⟨hc,hf⟩:=qb0 B9;have z2:=B9.size;have q1:w2.cell? ⟨w.heap.size,1,none⟩=some (.int .i64 fp):=(hc _ 1 (by simp;omega)).trans (by rw[World.cell?_alloc_past _ _ _ (by first|omega|(simp;omega))];exact p1);have q3:w2.cell? ⟨w1.heap.size,3,none⟩=some (.string (BS st.tk.str)):=(hc _ 3 (by simp)).trans (by simp);have B9:=j3 B9;clear hc hf))|(go_at_call 103;refine(vf7 _ _ _).mono ?_;rintro e w2⟨rfl,rfl⟩;simp only[qd2]))
    exact⟨rfl,(q9 F3).trans (Kept.of_below (q9 B9)),rfl⟩
  ·rw[if_neg h1]
   have KO:(((BS st.tk.str).size:Int) != 1)=true:=bne_iff_ne.2 (by rw[hz];omega);clear hz h1;go_enter func302,ntmps302
   go_wp2_with(first|(go_at_call 56;refine(qd1 rb s st 4 _ (q9 H).size (q9 H).fine.after (q9 HA).at' (q9 HA).lt (q9 HA).err (q9 H4)).mono ?_;rintro e w1⟨rfl,A4,A0⟩;have C8:w.heap.size<w1.heap.size:=(by have:=A0.size;simp at this;omega);have n1:¬w1.heap.size=rb:=(by omega);have p1:w1.cell? ⟨w.heap.size,1,none⟩=some (.int .i64 fp):=((qe1 A0).1 _ 1 (by simp) n0).trans (by simp);have p3:w1.cell? ⟨w.heap.size,3,none⟩=some (.string (BS ft.str)):=((qe1 A0).1 _ 3 (by simp) n0).trans (by simp);have F3:=j3 ((((Kept.refl rb w).alloc (.cells #[.int .i64 ft.kind,.int .i64 fp,.int .i64 ft.num,.string (BS ft.str)] 91)).trans A0).alloc (.cells #[.int .i64 st.tk.kind,.int .i64 st.place,.int .i64 st.tk.num,.string (BS st.tk.str)] 91));have G0:=j3 (A4.allocd (.cells #[.int .i64 st.tk.kind,.int .i64 st.place,.int .i64 st.tk.num,.string (BS st.tk.str)] 91) (by omega));clear A4 A0;simp only[tkV])|(go_at_call 103;refine(vf7 _ _ _).mono ?_;rintro e w2⟨rfl,rfl⟩;simp only[qd2]))
   exact⟨rfl,q9 F3,rfl⟩
 ·rw[qq3,if_neg h4]
  have H4:=j3 h4;clear h4;go_enter func302,ntmps302
  go_wp2_with(go_at_call 56;refine(qn0 rb s st 4 _ (q9 HA).at' (q9 HA).lt (q9 H4)).mono ?_;rintro e w1⟨rfl,A0⟩;simp only[qd2])
  exact⟨rfl,((Kept.refl rb w).alloc _).trans A0,rfl⟩
end Go.Proofs.YtfkcaldjphakpaaGreatDoor
