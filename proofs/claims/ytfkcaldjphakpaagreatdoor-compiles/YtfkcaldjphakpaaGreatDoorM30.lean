/- The document's answer. -/
import Derived.Test.YtfkcaldjphakpaaGreatDoorM29
set_option maxHeartbeats 32000000
set_option maxRecDepth 100000
namespace Go.Proofs.YtfkcaldjphakpaaGreatDoor
open Go.RowKit Go.Proofs.Tryz
section
attribute [local go_sem ↓] qe4
theorem jy2{N:Nat->Prop}{w:World}{x:Co}{f:RF}{ts:List (List UInt8)}{la:Option Addr}{lc:Nat}(hx:RfAt N w x f)(hN:∀b,N b->b<w.heap.size)(aX:TxtAt w (.slice la ts.length lc) ts)(C1:ts≠[])(C7:ts.length<=1000)(N0:∀t∈ts,t.length<=1000)(bx:qv7 x)(A7:∀t∈ts,qv7 (qd4 t))(B9:∀t∈ts,qv7 (j9 8 x (qd4 t)))(E8:∀i,1<=i->i<=(qe5 ts).length->qv7 (amK x (qe5 ts) i)):
  Calls prog 228 #[f.v,.slice la ts.length lc] w (qp6 N w (qh1 x ts)):=by
 obtain⟨S,hS⟩:∃S,qe5 ts=S:=⟨_,rfl⟩;obtain⟨n,hn⟩:∃n,ts.length=n:=⟨_,rfl⟩
 have TB:S.length<=n:=by
  rw[←hS,←hn];exact vd6 ts
 have BG:Hid (∀k t,ts[k]?=some t->∃lb,la=some ⟨lb,0,none⟩/\lb<w.heap.size/\w.cell? ⟨lb,k,none⟩=some (.string (BS t))):=j3 (by
  obtain⟨a,c,e,h⟩:=aX;injection e with e1 _ _;subst e1
  exact h)
 have HN:=j3 hn;have HS:=j3 hS;have HX:=j3 hx;rw[hn]at C7 ⊢;have M0:Hid (SelAt w f ((w.alloc (.cells #[.string f.op,.string (BS f.text),.int .i64 f.cls,.slice f.pa f.pn f.pc,.slice f.ta f.tn f.tc,.slice f.ra f.rn f.rc] 184)).alloc (.cells #[.string ⟨#[]⟩,.string ⟨#[]⟩,.int .i64 0,.slice none 0 0,.slice none 0 0,.slice none 0 0] 184)) (.slice none 0 0) (S.take 0)):=j3 ⟨World.ownsRow_nil _ _ _ _,Below.refl _ _⟩;simp only[RF.v];clear aX hn hS hx;go_enter func228,ntmps228
 go_upto_block 0 with fail
 go_cut [5] (λs5 wx=>∃a c,s5=.slice a S.length c/\Hid (SelAt w f wx (.slice a S.length c) S))
 case first=>
  go_wp2_with fail
  go_loopw [5] (λlv wr=>∃(k:Nat) (a:Option Addr) (c:Nat),k<=S.length/\lv=.slice a k c/\Hid (SelAt w f wr (.slice a k c) (S.take k))) (λlv _=>n - sliceN lv)
  case atStart=>exact⟨0,none,0,Nat.zero_le _,rfl,M0⟩
  case round=>
   clear M0;obtain⟨k,a,c,hk,rfl,HM⟩:=hrel
   by_cases Y9:k<n
   ·have yM:(k:Int)<(n:Int):=by omega
    go_wp2_with fail
    obtain⟨wo,rfl⟩:∃wo:World,wo=wr:=⟨_,rfl⟩
    go_loopw [6,7] (λb i wq=>∃m:Nat,m<=n/\i=.int .i64 m/\b=.int .i64 (qh2 ts S k m)/\Hid (SelAt w f wq (.slice a k c) (S.take k))) (λ_ i _=>n - (intOf i).toNat)
    case atStart=>exact⟨0,Nat.zero_le _,rfl,rfl,HM⟩
    case round=>
     clear HM;obtain⟨m,hm,rfl,rfl,HM⟩:=hrel;have Z3:=vu0 ts S k m;have T4:=(q9 HM).bel0
     by_cases yE:m<n
     ·obtain⟨t,ht⟩:∃t,ts[m]?=some t:=⟨_,List.getElem?_eq_getElem (by have:=q9 HN;omega)⟩
      obtain⟨lb,rfl,M5,sB⟩:=q9 BG m t ht;have EM:ts.getD m []=t:=by rw[List.getD_eq_getElem?_getD,ht];rfl
      have tl:wr.cell? ⟨lb,m,none⟩=some (.string (BS t)):=((qb0 T4).1 _ _ M5).trans sB;have yG:(0:Int)<=(m:Int):=by omega
      have jZ:(m:Int)<(n:Int):=by omega
      obtain⟨B,hB⟩:∃B,qh2 ts S k m=B:=⟨_,rfl⟩;obtain⟨L,hL⟩:∃L,qz3 S k t=L:=⟨_,rfl⟩;have bP:Hid (qh2 ts S k (m+1)=if L&&(decide (B<0)||Op.bytesLess t (ts.getD B.toNat [])) then(m:Int) else B):=j3 (by rw[qh2,EM,hB,hL]);rw[hB]at Z3 ⊢;have uL:=j3 hL;have TY:=j3 ht;clear hB hL EM ht sB
      go_wp2_with fail
      go_cut [8] (λs8 wx=>s8=.bool L/\Hid (SelAt w f wx (.slice a k c) (S.take k)))
      case first=>
       by_cases R0:k=0
       ·subst R0
        have NP:L=true:=by rw[←q9 uL];rfl
        subst NP
        go_quiet (fail)
        go_wp2_with fail
        go_meet
        exact⟨rfl,j3 ((q9 HM).drewN _)⟩
       ·obtain⟨k',rfl⟩:∃k',k=k'+1:=⟨k - 1,by omega⟩
        obtain⟨u,hu⟩:∃u,S[k']?=some u:=⟨_,List.getElem?_eq_getElem (by omega)⟩;obtain⟨lg,lcap,e,eH,rY,pU⟩:=(q9 HM).row.cell (k:=k') (t:=u) (by rw[List.getElem?_take_of_lt (by omega)];exact hu);injection e with e1 e2 e3;subst e1
        have NO:(!(Op.bytesLess (BS t).toList (BS u).toList||(BS t).toList==(BS u).toList))=L:=by
         rw[qc9,qc9,gtr_later,←q9 uL];unfold qz3;rw[Nat.add_sub_cancel,List.getD_eq_getElem?_getD,hu];simp
        have I8:(((k':Int)+1)==0)=false:=by rw[beq_eq_false_iff_ne];omega
        have O8:(0:Int)<=(k':Int):=by omega
        have yQ:(k':Int)<(k':Int)+1:=by omega
        clear hu e2 e3
        go_quiet (fail)
        go_wp2_with fail
        go_meet
        exact⟨by rw[←NO],j3 ((q9 HM).drewN _)⟩
      case rest=>
       obtain⟨rfl,dR⟩:=hcut;have B9:=(q9 dR).bel0;have DV:wc.cell? ⟨lb,m,none⟩=some (.string (BS t)):=((qb0 B9).1 _ _ M5).trans ((((qb0 T4).1 _ _ M5).symm).trans tl);clear tl HM
       cases L with
       | false=>
        go_wp2_with fail
        go_quiet (fail)
        go_wp2_with fail
        go_roundw
        case rel=>exact⟨m+1,by omega,by go_num,by rw[q9 bP];rfl,j3 ((q9 dR).drewN _)⟩
        case measure=>simp[intOf];omega
       | true=>
        by_cases hB:B<0
        ·have tM:decide (B<0)=true:=decide_eq_true hB
         go_wp2_with fail
         go_quiet (fail)
         go_wp2_with fail
         go_roundw
         case rel=>exact⟨m+1,by omega,by go_num,by rw[q9 bP,tM];rfl,j3 ((q9 dR).drewN _)⟩
         case measure=>simp[intOf];omega
        ·have tM:decide (B<0)=false:=decide_eq_false hB
         obtain⟨b,rfl⟩:∃b:Nat,B=b:=⟨B.toNat,by omega⟩;obtain⟨u,hu⟩:∃u,ts[b]?=some u:=⟨_,List.getElem?_eq_getElem (by have:=q9 HN;omega)⟩;obtain⟨lb',e,MC,pU⟩:=q9 BG b u hu;injection e with e;injection e with e;subst e;have ul:wc.cell? ⟨lb,b,none⟩=some (.string (BS u)):=((qb0 B9).1 _ _ M5).trans pU;have zJ:(0:Int)<=(b:Int):=by omega
         have cW:(b:Int)<(n:Int):=by omega
         have kU:Hid (qh2 ts S k (m+1)=if Op.bytesLess t u then(m:Int) else b):=j3 (by
          rw[q9 bP,tM,Int.toNat_natCast,List.getD_eq_getElem?_getD,hu];simp)
         have eQ:Op.bytesLess (BS t).toList (BS u).toList=Op.bytesLess t u:=by rw[qc9,qc9]
         clear bP hu pU Z3
         cases hq:Op.bytesLess t u with
         | false=>
          rw[hq]at eQ kU
          go_wp2_with fail
          go_quiet (fail)
          go_wp2_with fail
          go_roundw
          case rel=>exact⟨m+1,by omega,by go_num,by rw[q9 kU];rfl,j3 ((q9 dR).drewN _)⟩
          case measure=>simp[intOf];omega
         | true=>
          rw[hq]at eQ kU
          go_wp2_with fail
          go_quiet (fail)
          go_wp2_with fail
          go_roundw
          case rel=>exact⟨m+1,by omega,by go_num,by rw[q9 kU];rfl,j3 ((q9 dR).drewN _)⟩
          case measure=>simp[intOf];omega
     ·have vM:m=n:=by omega
      have LV:¬(m:Int)<(n:Int):=by omega
      have I0:=q9 HN;obtain⟨B,hB⟩:∃B,qh2 ts S k m=B:=⟨_,rfl⟩;have oN:qh2 ts (qe5 ts) k ts.length=B:=by rw[q9 HS,I0,←vM];exact hB
      rw[hB]at Z3 ⊢
      by_cases hBn:B<0
      ·have nQ:k=S.length:=by have:=best_none (ts:=ts) (k:=k) (by rw[q9 HS];exact hk) (by rw[oN];exact hBn);rw[this,q9 HS]
       have tM:decide (B<0)=true:=decide_eq_true hBn;clear hB oN
       go_wp2_with fail
       go_meet
       subst nQ;exact⟨a,c,rfl,by have:=q9 HM;rw[List.take_length]at this;exact j3 this⟩
      ·have tM:decide (B<0)=false:=decide_eq_false hBn
       obtain⟨A3,bV⟩:=best_next (ts:=ts) (k:=k) (by rw[q9 HS];exact hk) (by rw[oN];omega);rw[oN,q9 HS]at bV;rw[q9 HS]at A3;obtain⟨b,rfl⟩:∃b:Nat,B=b:=⟨B.toNat,by omega⟩;obtain⟨u,hu⟩:∃u,ts[b]?=some u:=⟨_,List.getElem?_eq_getElem (by omega)⟩;obtain⟨lb,rfl,M5,pU⟩:=q9 BG b u hu;have ul:wr.cell? ⟨lb,b,none⟩=some (.string (BS u)):=((qb0 T4).1 _ _ M5).trans pU;have zJ:(0:Int)<=(b:Int):=by omega
       have cW:(b:Int)<(n:Int):=by omega
       have FX:S.take (k+1)=S.take k++[u]:=by
        rw[List.take_add_one,List.getElem?_eq_getElem A3];rw[Int.toNat_natCast,List.getD_eq_getElem?_getD,hu,List.getD_eq_getElem?_getD,List.getElem?_eq_getElem A3]at bV;rw[←show u=S[k] from bV];rfl
       have U2:(S.take k).length=k:=by rw[List.length_take];omega
       obtain⟨g5,S6,w5,o6,cF,U0⟩:=(q9 HM).row.app1 (q9 HM).size u (by omega) wr.heap.size rfl;rw[←FX,U2]at cF;rw[U2]at o6;have fX:Hid (SelAt w f w5 (.slice (some ⟨g5,0,none⟩) (k+1) S6) (S.take (k+1))):=j3 ⟨q9 cF,(q9 HM).bel.trans (q9 U0)⟩;clear hB oN bV hu pU FX U2 cF U0
       go_wp2_with fail
       go_roundw
       case rel=>exact⟨k+1,_,_,by omega,rfl,fX⟩
       case measure=>simp[sliceN];omega
   ·have yM:¬(k:Int)<(n:Int):=by omega
    have nQ:k=S.length:=by omega
    go_wp2_with fail
    go_meet
    subst nQ;exact⟨a,c,rfl,by have:=q9 HM;rw[List.take_length]at this;exact j3 this⟩
 case rest=>
  obtain⟨a,c,rfl,HM⟩:=hcut;obtain⟨w1,rfl⟩:∃w1:World,w1=wc:=⟨_,rfl⟩;have tD:S≠[]:=by rw[←q9 HS];exact vj1 C1
  have wA:0<S.length:=List.length_pos_iff.2 tD;obtain⟨t0,mX⟩:∃t,S[0]?=some t:=⟨_,List.getElem?_eq_getElem wA⟩;obtain⟨lg,lcap,e,eH,rY,jB⟩:=(q9 HM).row.cell (k:=0) mX;injection e with e1 _ _;subst e1;have C8:=(q9 HM).size;have F2:=(q9 HM).bel;have X0:w1.cell? ⟨w.heap.size,0,none⟩=some (.string f.op):=(F2.cell (p:=⟨w.heap.size,0,none⟩) (by show w.heap.size<w.heap.size+1+1;omega)).trans (by simp[go_sem]);have X1:w1.cell? ⟨w.heap.size,1,none⟩=some (.string (BS f.text)):=(F2.cell (p:=⟨w.heap.size,1,none⟩) (by show w.heap.size<w.heap.size+1+1;omega)).trans (by simp[go_sem]);have X2:w1.cell? ⟨w.heap.size,2,none⟩=some (.int .i64 f.cls):=(F2.cell (p:=⟨w.heap.size,2,none⟩) (by show w.heap.size<w.heap.size+1+1;omega)).trans (by simp[go_sem]);have X3:w1.cell? ⟨w.heap.size,3,none⟩=some (.slice f.pa f.pn f.pc):=(F2.cell (p:=⟨w.heap.size,3,none⟩) (by show w.heap.size<w.heap.size+1+1;omega)).trans (by simp[go_sem]);have X4:w1.cell? ⟨w.heap.size,4,none⟩=some (.slice f.ta f.tn f.tc):=(F2.cell (p:=⟨w.heap.size,4,none⟩) (by show w.heap.size<w.heap.size+1+1;omega)).trans (by simp[go_sem]);have X5:w1.cell? ⟨w.heap.size,5,none⟩=some (.slice f.ra f.rn f.rc):=(F2.cell (p:=⟨w.heap.size,5,none⟩) (by show w.heap.size<w.heap.size+1+1;omega)).trans (by simp[go_sem]);have Q0:w1.cell? ⟨w.heap.size+1,0,none⟩=some (.string ⟨#[]⟩):=(F2.cell (p:=⟨w.heap.size+1,0,none⟩) (by show w.heap.size+1<w.heap.size+1+1;omega)).trans (by simp[go_sem]);have Q1:w1.cell? ⟨w.heap.size+1,1,none⟩=some (.string ⟨#[]⟩):=(F2.cell (p:=⟨w.heap.size+1,1,none⟩) (by show w.heap.size+1<w.heap.size+1+1;omega)).trans (by simp[go_sem]);have Q2:w1.cell? ⟨w.heap.size+1,2,none⟩=some (.int .i64 0):=(F2.cell (p:=⟨w.heap.size+1,2,none⟩) (by show w.heap.size+1<w.heap.size+1+1;omega)).trans (by simp[go_sem]);have Q3:w1.cell? ⟨w.heap.size+1,3,none⟩=some (.slice none 0 0):=(F2.cell (p:=⟨w.heap.size+1,3,none⟩) (by show w.heap.size+1<w.heap.size+1+1;omega)).trans (by simp[go_sem]);have Q4:w1.cell? ⟨w.heap.size+1,4,none⟩=some (.slice none 0 0):=(F2.cell (p:=⟨w.heap.size+1,4,none⟩) (by show w.heap.size+1<w.heap.size+1+1;omega)).trans (by simp[go_sem]);have Q5:w1.cell? ⟨w.heap.size+1,5,none⟩=some (.slice none 0 0):=(F2.cell (p:=⟨w.heap.size+1,5,none⟩) (by show w.heap.size+1<w.heap.size+1+1;omega)).trans (by simp[go_sem]);have QZ:∀i,w1.frozen? ⟨w.heap.size+1,i,none⟩=false:=λi=>(F2.frozen (p:=⟨w.heap.size+1,i,none⟩) (by show w.heap.size+1<w.heap.size+1+1;omega)).trans (by simp[go_sem])
  have kL:=(q9 HM).bel0
  have uH:Hid (∀t∈S,t.length<=1000/\qv7 (qd4 t)/\qv7 (j9 8 x (qd4 t))):=j3 λt ht=>by
   have hm:=vd5.1 (show t∈qe5 ts by rw[q9 HS];exact ht);exact⟨N0 t hm,A7 t hm,B9 t hm⟩
  have oZ:=j3 (q9 HM).row;have CZ:=j3 kL;have uA:Hid (∀W,Below w1.heap.size w1 W->RfAt N W x f):=j3 λW hb=>((q9 HX).below kL).below hb
  have kV:Hid (∀b,N b->b<w1.heap.size):=j3 λb h=>Nat.lt_of_lt_of_le (hN b h) kL.size
  have KXg:Hid (∀b W,Below w1.heap.size w1 b->Below b.heap.size b W->∀(i:Nat) (t:List UInt8),w1.cell? ⟨lg,i,none⟩=some (.string (BS t))->(W.cell? ⟨w.heap.size,0,none⟩=some (.string f.op)/\W.cell? ⟨w.heap.size,1,none⟩=some (.string (BS f.text))/\W.cell? ⟨w.heap.size,2,none⟩=some (.int .i64 f.cls)/\W.cell? ⟨w.heap.size,3,none⟩=some (.slice f.pa f.pn f.pc)/\W.cell? ⟨w.heap.size,4,none⟩=some (.slice f.ta f.tn f.tc)/\W.cell? ⟨w.heap.size,5,none⟩=some (.slice f.ra f.rn f.rc)/\W.cell? ⟨lg,i,none⟩=some (.string (BS t)))):=j3 λb W h1 h2 i t hl=>by
   have hh:=j6 h1 h2;refine⟨?_, ?_, ?_, ?_, ?_, ?_, ?_⟩
   ·exact((qb0 hh).1 _ _ (by omega)).trans X0
   ·exact((qb0 hh).1 _ _ (by omega)).trans X1
   ·exact((qb0 hh).1 _ _ (by omega)).trans X2
   ·exact((qb0 hh).1 _ _ (by omega)).trans X3
   ·exact((qb0 hh).1 _ _ (by omega)).trans X4
   ·exact((qb0 hh).1 _ _ (by omega)).trans X5
   ·exact((qb0 hh).1 _ _ rY).trans hl
  have LFg:Hid (∀(t:List UInt8) (W:World),Calls prog 224 #[.string ⟨#[116,101,120,116]⟩,.string (BS (qL t)),.int .i64 3,.int .i64 ((BS t).size:Int)] W λe w'=>Below W.heap.size W w'/\∃r:RF,e=.returned (.agg #[.string r.op,.string (BS r.text),.int .i64 r.cls,.slice r.pa r.pn r.pc,.slice r.ta r.tn r.tc,.slice r.ra r.rn r.rc])/\RfAt (λb=>N b\/W.heap.size<=b) w' (qd4 t) r):=j3 λt W=>(qx1 N ⟨2,0,t,[]⟩ W).mono λe w' h=>h.rf
  have QTg:Hid (∀(t:List UInt8),t.length<=1000->∀W,Calls prog 226 #[.string (BS t)] W λe w'=>e=.returned (.string (BS (qL t)))/\w'=W):=j3 λt ht W=>qq9 (BS t) ht W
  have gM:t0∈S:=List.mem_of_getElem? mX;obtain⟨QB,kO⟩:∃q,BS (qL t0)=q:=⟨_,rfl⟩;have LF:=j3 (q9 LFg t0);have QT:=j3 (q9 QTg t0 ((q9 uH t0 gM).1));have BT:=j3 ((q9 uH t0 gM).2.1);have KX:Hid (∀W,Below w1.heap.size w1 W->(W.cell? ⟨w.heap.size,0,none⟩=some (.string f.op)/\W.cell? ⟨w.heap.size,1,none⟩=some (.string (BS f.text))/\W.cell? ⟨w.heap.size,2,none⟩=some (.int .i64 f.cls)/\W.cell? ⟨w.heap.size,3,none⟩=some (.slice f.pa f.pn f.pc)/\W.cell? ⟨w.heap.size,4,none⟩=some (.slice f.ta f.tn f.tc)/\W.cell? ⟨w.heap.size,5,none⟩=some (.slice f.ra f.rn f.rc)/\W.cell? ⟨lg,0,none⟩=some (.string (BS t0)))):=j3 λW hb=>q9 KXg w1 W (Below.refl _ _) hb 0 t0 jB
  have oU:=uA;have fG:=kV;rw[kO]at LF QT;have NJ:(0:Int)<(S.length:Int):=by omega
  have IG:Hid (amK x S 1=j9 8 x (qd4 t0)):=j3 (by unfold amK;rw[Nat.sub_self,List.take_zero,List.getD_eq_getElem?_getD,mX];rfl);clear F2 kL mX gM kO HM
  go_upto_region 13 with(go_at_call 226;refine(q9 QT _).mono ?_;rintro e wq⟨rfl,hq⟩;subst wq)
  go_cut [10] (λs10 wx=>∃ob r,s10=.pointer (some ⟨ob,0,none⟩)/\Hid (OutAt N w1 wx ob (j9 8 x (qd4 t0)) r))
  case first=>
   have yJ:lg<w1.heap.size:=(by omega);have uY:¬w.heap.size=w1.heap.size:=(by omega);have uX:¬w1.heap.size=w.heap.size:=(by omega);have KH:¬lg=w1.heap.size:=(by omega);have KG:¬w1.heap.size=lg:=(by omega);have KF:w.heap.size<w1.heap.size:=(by omega);have KE:lg<w1.heap.size:=(by omega);have TWA:Hid (∀(w2:World) (g2:RF),Below w1.heap.size w1 w2->RfAt (λb=>N b\/(w1.heap.size<=b/\b≠w1.heap.size)) w2 (qd4 t0) g2->w1.heap.size+1<=w2.heap.size->Calls prog 227 #[.string ⟨#[61]⟩,.agg #[.string f.op,.string (BS f.text),.int .i64 f.cls,.slice f.pa f.pn f.pc,.slice f.ta f.tn f.tc,.slice f.ra f.rn f.rc],.agg #[.string g2.op,.string (BS g2.text),.int .i64 g2.cls,.slice g2.pa g2.pn g2.pc,.slice g2.ta g2.tn g2.tc,.slice g2.ra g2.rn g2.rc]] w2 λe w'=>Below w2.heap.size w2 w'/\∃r:RF,e=.returned (.agg #[.string r.op,.string (BS r.text),.int .i64 r.cls,.slice r.pa r.pn r.pc,.slice r.ta r.tn r.tc,.slice r.ra r.rn r.rc])/\RfAt (λb=>N b\/(w1.heap.size<=b/\b≠w1.heap.size)) w' (j9 8 x (qd4 t0)) r):=j3 λw2 g2 h1 h2 h3=>jg5 (o:=8) (by simp[qe8]) h1 ((q9 oU w2 h1).keep (λ_ _ _=>rfl) (Nat.le_refl _) (λ_ h _=>.inl h)) h2 (by omega) bx (q9 BT)
   have TWB:Hid (∀(w2:World) (g2:RF),Below w1.heap.size w1 w2->RfAt (λb=>N b\/w1.heap.size<=b) w2 (qd4 t0) g2->Calls prog 227 #[.string ⟨#[61]⟩,.agg #[.string f.op,.string (BS f.text),.int .i64 f.cls,.slice f.pa f.pn f.pc,.slice f.ta f.tn f.tc,.slice f.ra f.rn f.rc],.agg #[.string g2.op,.string (BS g2.text),.int .i64 g2.cls,.slice g2.pa g2.pn g2.pc,.slice g2.ta g2.tn g2.tc,.slice g2.ra g2.rn g2.rc]] (w2.alloc (.cells #[.string ⟨#[]⟩,.string ⟨#[]⟩,.int .i64 0,.slice none 0 0,.slice none 0 0,.slice none 0 0] 184)) λe w'=>Below (w2.alloc (.cells #[.string ⟨#[]⟩,.string ⟨#[]⟩,.int .i64 0,.slice none 0 0,.slice none 0 0,.slice none 0 0] 184)).heap.size (w2.alloc (.cells #[.string ⟨#[]⟩,.string ⟨#[]⟩,.int .i64 0,.slice none 0 0,.slice none 0 0,.slice none 0 0] 184)) w'/\∃r:RF,e=.returned (.agg #[.string r.op,.string (BS r.text),.int .i64 r.cls,.slice r.pa r.pn r.pc,.slice r.ta r.tn r.tc,.slice r.ra r.rn r.rc])/\RfAt (λb=>N b\/(w1.heap.size<=b/\b≠w2.heap.size)) w' (j9 8 x (qd4 t0)) r):=j3 λw2 g2 h1 h2=>jg5 (o:=8) (by simp[qe8]) (j6 h1 ((Below.refl _ _).alloc (Nat.le_refl _) _)) ((q9 oU _ (j6 h1 ((Below.refl _ _).alloc (Nat.le_refl _) (.cells #[.string ⟨#[]⟩,.string ⟨#[]⟩,.int .i64 0,.slice none 0 0,.slice none 0 0,.slice none 0 0] 184)))).keep (λ_ _ _=>rfl) (Nat.le_refl _) (λ_ h _=>.inl h)) (js3 h2 _) (by simp) bx (q9 BT)
   have TWC:Hid (∀(w2:World) (g2:RF),Below w1.heap.size w1 w2->RfAt (λb=>N b\/w1.heap.size<=b) w2 (qd4 t0) g2->Calls prog 227 #[.string ⟨#[61]⟩,.agg #[.string f.op,.string (BS f.text),.int .i64 f.cls,.slice f.pa f.pn f.pc,.slice f.ta f.tn f.tc,.slice f.ra f.rn f.rc],.agg #[.string g2.op,.string (BS g2.text),.int .i64 g2.cls,.slice g2.pa g2.pn g2.pc,.slice g2.ta g2.tn g2.tc,.slice g2.ra g2.rn g2.rc]] w2 λe w'=>Below w2.heap.size w2 w'/\∃r:RF,e=.returned (.agg #[.string r.op,.string (BS r.text),.int .i64 r.cls,.slice r.pa r.pn r.pc,.slice r.ta r.tn r.tc,.slice r.ra r.rn r.rc])/\RfAt (λb=>N b\/w1.heap.size<=b) w' (j9 8 x (qd4 t0)) r):=j3 λw2 g2 h1 h2=>tw_no (o:=8) (by simp[qe8]) h1 ((q9 oU w2 h1).keep (λ_ _ _=>rfl) (Nat.le_refl _) (λ_ h _=>.inl h)) h2 bx (q9 BT)
   go_region_held3 (λW=>W.cell? ⟨w.heap.size,0,none⟩=some (.string f.op)/\W.cell? ⟨w.heap.size,1,none⟩=some (.string (BS f.text))/\W.cell? ⟨w.heap.size,2,none⟩=some (.int .i64 f.cls)/\W.cell? ⟨w.heap.size,3,none⟩=some (.slice f.pa f.pn f.pc)/\W.cell? ⟨w.heap.size,4,none⟩=some (.slice f.ta f.tn f.tc)/\W.cell? ⟨w.heap.size,5,none⟩=some (.slice f.ra f.rn f.rc)/\W.cell? ⟨lg,0,none⟩=some (.string (BS t0))) (first|with_reducible assumption|go_keep) (first|(go_at_call 227;have _q:=uP;refine(q9 TWA w2 g2 (q9 pH) (q9 uP) F8).mono ?_;rintro e w3⟨E8,r3,rfl,B8⟩;have dN:=j3 B8;have G2:=j3 (j6 (q9 pH) E8);obtain⟨p0,p1,p2,p3,p4,p5,pz,Q9⟩:=(q9 BO).below E8;have Z5:=q9 KX w3 (q9 G2);clear E8 B8)|(go_at_call 227;have _q:=lD;refine(q9 TWB w2 g2 (q9 fJ) (q9 lD)).mono ?_;rintro e w3⟨E8,r3,rfl,B8⟩;have uJ:=j3 B8;have G2:=j3 (j6 (j6 (q9 fJ) ((Below.refl _ _).alloc (Nat.le_refl _) _)) E8);obtain⟨p0,p1,p2,p3,p4,p5,pz,Q9⟩:=(qv3 w2).below E8;have Z5:=q9 KX w3 (q9 G2);clear E8 B8)|(go_at_call 227;have _q:=lD;refine(q9 TWC w2 g2 (q9 fJ) (q9 lD)).mono ?_;rintro e w3⟨E8,r3,rfl,B8⟩;have cE:=j3 B8;have G2:=j3 (j6 (q9 fJ) E8);have jP:=E8.size;have uW:¬w.heap.size=w3.heap.size:=(by omega);have uV:¬w3.heap.size=w.heap.size:=(by omega);have JX:¬lg=w3.heap.size:=(by omega);have JW:¬w3.heap.size=lg:=(by omega);have JV:w.heap.size<w3.heap.size:=(by omega);have JU:lg<w3.heap.size:=(by omega);have Z5:=q9 KX w3 (q9 G2);clear E8 B8)|(go_at_call 224;refine(q9 LF (w1.alloc (.cells #[.string ⟨#[]⟩,.string ⟨#[]⟩,.int .i64 0,.slice none 0 0,.slice none 0 0,.slice none 0 0] 184)).drew).mono ?_;rintro e w2⟨B9,g2,rfl,O4⟩;have pH:=j3 (j6 ((Below.refl w1.heap.size w1).alloc (Nat.le_refl _) (.cells #[.string ⟨#[]⟩,.string ⟨#[]⟩,.int .i64 0,.slice none 0 0,.slice none 0 0,.slice none 0 0] 184)).drew B9);have uP:Hid (RfAt (λb=>N b\/(w1.heap.size<=b/\b≠w1.heap.size)) w2 (qd4 t0) g2):=j3 (O4.keep (λ_ _ _=>rfl) (Nat.le_refl _) (λb h _=>(by rcases h with h|h;exact .inl h;right;have h':(w1.alloc (.cells #[.string ⟨#[]⟩,.string ⟨#[]⟩,.int .i64 0,.slice none 0 0,.slice none 0 0,.slice none 0 0] 184)).heap.size<=b:=h;rw[World.size_alloc]at h';exact⟨(by omega),(by omega)⟩)));have nF:=(qv3 w1).drew.below B9;have BO:=j3 nF;have F8:w1.heap.size+1<=w2.heap.size:=nF.lt;clear nF;have AF:=q9 KX w2 (q9 pH);clear B9 O4)|(go_at_call 224;refine(q9 LF w1.drew).mono ?_;rintro e w2⟨B9,g2,rfl,O4⟩;have fJ:=j3 (j6 (Below.refl w1.heap.size w1).drew B9);have lD:Hid (RfAt (λb=>N b\/w1.heap.size<=b) w2 (qd4 t0) g2):=j3 O4;have F8:w1.heap.size<=w2.heap.size:=B9.size;have fZ:¬w.heap.size=w2.heap.size:=(by omega);have KD:¬w2.heap.size=w.heap.size:=(by omega);have KC:¬lg=w2.heap.size:=(by omega);have KA:¬w2.heap.size=lg:=(by omega);have JZ:w.heap.size<w2.heap.size:=(by omega);have JY:lg<w2.heap.size:=(by omega);have AF:=q9 KX w2 (q9 fJ);clear B9 O4))
   all_goals
    go_wp2_with fail
    go_meet
    first
     | (have _q:=dN;exact⟨_,r3,rfl,j3 (OutAt.put (q9 G2) (Nat.le_refl _) Q9 (q9 fG) (λk hk=>by match k,hk with|0,_=>exact⟨_,p0⟩|1,_=>exact⟨_,p1⟩|2,_=>exact⟨_,p2⟩|3,_=>exact⟨_,p3⟩|4,_=>exact⟨_,p4⟩|5,_=>exact⟨_,p5⟩) pz (q9 dN))⟩)
     | (have _q:=uJ;exact⟨_,r3,rfl,j3 (OutAt.put (q9 G2) (q9 fJ).size Q9 (q9 fG) (λk hk=>by match k,hk with|0,_=>exact⟨_,p0⟩|1,_=>exact⟨_,p1⟩|2,_=>exact⟨_,p2⟩|3,_=>exact⟨_,p3⟩|4,_=>exact⟨_,p4⟩|5,_=>exact⟨_,p5⟩) pz (q9 uJ))⟩)
     | (have _q:=cE;exact⟨_,r3,rfl,j3 (OutAt.new (q9 G2) (q9 cE))⟩)
  case rest=>
   obtain⟨ob,r,rfl,HO⟩:=hcut;rw[←q9 IG]at HO;clear LF QT BT KX IG jB
   go_wp2_with fail
   go_loopw [11] (λi wr=>∃(k:Nat) (r:RF),1<=k/\k<=S.length/\i=.int .i64 k/\Hid (OutAt N w1 wr ob (amK x S k) r)) (λi _=>S.length - (intOf i).toNat)
   case atStart=>exact⟨1,r,Nat.le_refl _,wA,rfl,HO⟩
   case round=>
    clear HO r;obtain⟨k,r,A0,A3,rfl,HO⟩:=hrel;have Z3:=(q9 HO).bel;have aW:=Z3.size;have xZ:=(q9 HO).ge;have LM:=(q9 HO).lt
    by_cases A1:k<S.length
    ·obtain⟨t,ht⟩:∃t,S[k]?=some t:=⟨_,List.getElem?_eq_getElem A1⟩
     have cK:t∈S:=List.mem_of_getElem? ht
     have bY:w1.cell? ⟨lg,k,none⟩=some (.string (BS t)):=by
      obtain⟨lg',lcap',e,_,_,ME⟩:=(q9 oZ).cell (k:=k) ht;injection e with e1 _ _;injection e1 with e1;injection e1 with e1;rw[e1];exact ME
     have MA:wr.cell? ⟨lg,k,none⟩=some (.string (BS t)):=((qb0 Z3).1 _ _ rY).trans bY;have Y0:wr.cell? ⟨w.heap.size,0,none⟩=some (.string f.op):=((qb0 Z3).1 _ _ (by omega)).trans X0;have Y1:wr.cell? ⟨w.heap.size,1,none⟩=some (.string (BS f.text)):=((qb0 Z3).1 _ _ (by omega)).trans X1;have Y2:wr.cell? ⟨w.heap.size,2,none⟩=some (.int .i64 f.cls):=((qb0 Z3).1 _ _ (by omega)).trans X2;have Y3:wr.cell? ⟨w.heap.size,3,none⟩=some (.slice f.pa f.pn f.pc):=((qb0 Z3).1 _ _ (by omega)).trans X3;have Y4:wr.cell? ⟨w.heap.size,4,none⟩=some (.slice f.ta f.tn f.tc):=((qb0 Z3).1 _ _ (by omega)).trans X4;have Y5:wr.cell? ⟨w.heap.size,5,none⟩=some (.slice f.ra f.rn f.rc):=((qb0 Z3).1 _ _ (by omega)).trans X5;have qF:Hid (amK x S (k+1)=j9 7 (amK x S k) (j9 8 x (qd4 t))):=j3 (amK_step A0 ht);obtain⟨QB,kO⟩:∃q,BS (qL t)=q:=⟨_,rfl⟩;have LF:=j3 (q9 LFg t);have QT:=j3 (q9 QTg t ((q9 uH t cK).1));have BT:=j3 ((q9 uH t cK).2.1);have BP:=j3 ((q9 uH t cK).2.2);have BA:=j3 (E8 k A0 (by rw[q9 HS];exact A3));rw[q9 HS]at BA;have KX:Hid (∀W,Below wr.heap.size wr W->(W.cell? ⟨w.heap.size,0,none⟩=some (.string f.op)/\W.cell? ⟨w.heap.size,1,none⟩=some (.string (BS f.text))/\W.cell? ⟨w.heap.size,2,none⟩=some (.int .i64 f.cls)/\W.cell? ⟨w.heap.size,3,none⟩=some (.slice f.pa f.pn f.pc)/\W.cell? ⟨w.heap.size,4,none⟩=some (.slice f.ta f.tn f.tc)/\W.cell? ⟨w.heap.size,5,none⟩=some (.slice f.ra f.rn f.rc)/\W.cell? ⟨lg,k,none⟩=some (.string (BS t)))):=j3 λW hb=>q9 KXg wr W Z3 hb k t bY
     have oU:Hid (∀W,Below wr.heap.size wr W->RfAt N W x f):=j3 λW hb=>q9 uA W (j6 Z3 hb)
     have fG:Hid (∀b,N b->b<wr.heap.size):=j3 λb h=>Nat.lt_of_lt_of_le (q9 kV b h) aW
     rw[kO]at LF QT;have O8:(0:Int)<=(k:Int):=by omega
     have yQ:(k:Int)<(S.length:Int):=by omega
     clear ht cK kO bY
     go_upto_region 18 with(go_at_call 226;refine(q9 QT _).mono ?_;rintro e wq⟨rfl,hq⟩;subst wq)
     go_cut [12] (λs12 wx=>∃eb re,s12=.pointer (some ⟨eb,0,none⟩)/\Hid (OutAt N wr wx eb (j9 8 x (qd4 t)) re))
     case first=>
      have yJ:lg<wr.heap.size:=(by omega);have uY:¬w.heap.size=wr.heap.size:=(by omega);have uX:¬wr.heap.size=w.heap.size:=(by omega);have KH:¬lg=wr.heap.size:=(by omega);have KG:¬wr.heap.size=lg:=(by omega);have KF:w.heap.size<wr.heap.size:=(by omega);have KE:lg<wr.heap.size:=(by omega);have TWA:Hid (∀(w2:World) (g2:RF),Below wr.heap.size wr w2->RfAt (λb=>N b\/(wr.heap.size<=b/\b≠wr.heap.size)) w2 (qd4 t) g2->wr.heap.size+1<=w2.heap.size->Calls prog 227 #[.string ⟨#[61]⟩,.agg #[.string f.op,.string (BS f.text),.int .i64 f.cls,.slice f.pa f.pn f.pc,.slice f.ta f.tn f.tc,.slice f.ra f.rn f.rc],.agg #[.string g2.op,.string (BS g2.text),.int .i64 g2.cls,.slice g2.pa g2.pn g2.pc,.slice g2.ta g2.tn g2.tc,.slice g2.ra g2.rn g2.rc]] w2 λe w'=>Below w2.heap.size w2 w'/\∃r:RF,e=.returned (.agg #[.string r.op,.string (BS r.text),.int .i64 r.cls,.slice r.pa r.pn r.pc,.slice r.ta r.tn r.tc,.slice r.ra r.rn r.rc])/\RfAt (λb=>N b\/(wr.heap.size<=b/\b≠wr.heap.size)) w' (j9 8 x (qd4 t)) r):=j3 λw2 g2 h1 h2 h3=>jg5 (o:=8) (by simp[qe8]) h1 ((q9 oU w2 h1).keep (λ_ _ _=>rfl) (Nat.le_refl _) (λ_ h _=>.inl h)) h2 (by omega) bx (q9 BT)
      have TWB:Hid (∀(w2:World) (g2:RF),Below wr.heap.size wr w2->RfAt (λb=>N b\/wr.heap.size<=b) w2 (qd4 t) g2->Calls prog 227 #[.string ⟨#[61]⟩,.agg #[.string f.op,.string (BS f.text),.int .i64 f.cls,.slice f.pa f.pn f.pc,.slice f.ta f.tn f.tc,.slice f.ra f.rn f.rc],.agg #[.string g2.op,.string (BS g2.text),.int .i64 g2.cls,.slice g2.pa g2.pn g2.pc,.slice g2.ta g2.tn g2.tc,.slice g2.ra g2.rn g2.rc]] (w2.alloc (.cells #[.string ⟨#[]⟩,.string ⟨#[]⟩,.int .i64 0,.slice none 0 0,.slice none 0 0,.slice none 0 0] 184)) λe w'=>Below (w2.alloc (.cells #[.string ⟨#[]⟩,.string ⟨#[]⟩,.int .i64 0,.slice none 0 0,.slice none 0 0,.slice none 0 0] 184)).heap.size (w2.alloc (.cells #[.string ⟨#[]⟩,.string ⟨#[]⟩,.int .i64 0,.slice none 0 0,.slice none 0 0,.slice none 0 0] 184)) w'/\∃r:RF,e=.returned (.agg #[.string r.op,.string (BS r.text),.int .i64 r.cls,.slice r.pa r.pn r.pc,.slice r.ta r.tn r.tc,.slice r.ra r.rn r.rc])/\RfAt (λb=>N b\/(wr.heap.size<=b/\b≠w2.heap.size)) w' (j9 8 x (qd4 t)) r):=j3 λw2 g2 h1 h2=>jg5 (o:=8) (by simp[qe8]) (j6 h1 ((Below.refl _ _).alloc (Nat.le_refl _) _)) ((q9 oU _ (j6 h1 ((Below.refl _ _).alloc (Nat.le_refl _) (.cells #[.string ⟨#[]⟩,.string ⟨#[]⟩,.int .i64 0,.slice none 0 0,.slice none 0 0,.slice none 0 0] 184)))).keep (λ_ _ _=>rfl) (Nat.le_refl _) (λ_ h _=>.inl h)) (js3 h2 _) (by simp) bx (q9 BT)
      have TWC:Hid (∀(w2:World) (g2:RF),Below wr.heap.size wr w2->RfAt (λb=>N b\/wr.heap.size<=b) w2 (qd4 t) g2->Calls prog 227 #[.string ⟨#[61]⟩,.agg #[.string f.op,.string (BS f.text),.int .i64 f.cls,.slice f.pa f.pn f.pc,.slice f.ta f.tn f.tc,.slice f.ra f.rn f.rc],.agg #[.string g2.op,.string (BS g2.text),.int .i64 g2.cls,.slice g2.pa g2.pn g2.pc,.slice g2.ta g2.tn g2.tc,.slice g2.ra g2.rn g2.rc]] w2 λe w'=>Below w2.heap.size w2 w'/\∃r:RF,e=.returned (.agg #[.string r.op,.string (BS r.text),.int .i64 r.cls,.slice r.pa r.pn r.pc,.slice r.ta r.tn r.tc,.slice r.ra r.rn r.rc])/\RfAt (λb=>N b\/wr.heap.size<=b) w' (j9 8 x (qd4 t)) r):=j3 λw2 g2 h1 h2=>tw_no (o:=8) (by simp[qe8]) h1 ((q9 oU w2 h1).keep (λ_ _ _=>rfl) (Nat.le_refl _) (λ_ h _=>.inl h)) h2 bx (q9 BT)
      go_region_held3 (λW=>W.cell? ⟨w.heap.size,0,none⟩=some (.string f.op)/\W.cell? ⟨w.heap.size,1,none⟩=some (.string (BS f.text))/\W.cell? ⟨w.heap.size,2,none⟩=some (.int .i64 f.cls)/\W.cell? ⟨w.heap.size,3,none⟩=some (.slice f.pa f.pn f.pc)/\W.cell? ⟨w.heap.size,4,none⟩=some (.slice f.ta f.tn f.tc)/\W.cell? ⟨w.heap.size,5,none⟩=some (.slice f.ra f.rn f.rc)/\W.cell? ⟨lg,k,none⟩=some (.string (BS t))) (first|with_reducible assumption|go_keep) (first|(go_at_call 227;have _q:=uP;refine(q9 TWA w2 g2 (q9 pH) (q9 uP) F8).mono ?_;rintro e w3⟨E8,r3,rfl,B8⟩;have dN:=j3 B8;have G2:=j3 (j6 (q9 pH) E8);obtain⟨p0,p1,p2,p3,p4,p5,pz,Q9⟩:=(q9 BO).below E8;have Z5:=q9 KX w3 (q9 G2);clear E8 B8)|(go_at_call 227;have _q:=lD;refine(q9 TWB w2 g2 (q9 fJ) (q9 lD)).mono ?_;rintro e w3⟨E8,r3,rfl,B8⟩;have uJ:=j3 B8;have G2:=j3 (j6 (j6 (q9 fJ) ((Below.refl _ _).alloc (Nat.le_refl _) _)) E8);obtain⟨p0,p1,p2,p3,p4,p5,pz,Q9⟩:=(qv3 w2).below E8;have Z5:=q9 KX w3 (q9 G2);clear E8 B8)|(go_at_call 227;have _q:=lD;refine(q9 TWC w2 g2 (q9 fJ) (q9 lD)).mono ?_;rintro e w3⟨E8,r3,rfl,B8⟩;have cE:=j3 B8;have G2:=j3 (j6 (q9 fJ) E8);have jP:=E8.size;have uW:¬w.heap.size=w3.heap.size:=(by omega);have uV:¬w3.heap.size=w.heap.size:=(by omega);have JX:¬lg=w3.heap.size:=(by omega);have JW:¬w3.heap.size=lg:=(by omega);have JV:w.heap.size<w3.heap.size:=(by omega);have JU:lg<w3.heap.size:=(by omega);have Z5:=q9 KX w3 (q9 G2);clear E8 B8)|(go_at_call 224;refine(q9 LF (wr.alloc (.cells #[.string ⟨#[]⟩,.string ⟨#[]⟩,.int .i64 0,.slice none 0 0,.slice none 0 0,.slice none 0 0] 184)).drew).mono ?_;rintro e w2⟨B9,g2,rfl,O4⟩;have pH:=j3 (j6 ((Below.refl wr.heap.size wr).alloc (Nat.le_refl _) (.cells #[.string ⟨#[]⟩,.string ⟨#[]⟩,.int .i64 0,.slice none 0 0,.slice none 0 0,.slice none 0 0] 184)).drew B9);have uP:Hid (RfAt (λb=>N b\/(wr.heap.size<=b/\b≠wr.heap.size)) w2 (qd4 t) g2):=j3 (O4.keep (λ_ _ _=>rfl) (Nat.le_refl _) (λb h _=>(by rcases h with h|h;exact .inl h;right;have h':(wr.alloc (.cells #[.string ⟨#[]⟩,.string ⟨#[]⟩,.int .i64 0,.slice none 0 0,.slice none 0 0,.slice none 0 0] 184)).heap.size<=b:=h;rw[World.size_alloc]at h';exact⟨(by omega),(by omega)⟩)));have nF:=(qv3 wr).drew.below B9;have BO:=j3 nF;have F8:wr.heap.size+1<=w2.heap.size:=nF.lt;clear nF;have AF:=q9 KX w2 (q9 pH);clear B9 O4)|(go_at_call 224;refine(q9 LF wr.drew).mono ?_;rintro e w2⟨B9,g2,rfl,O4⟩;have fJ:=j3 (j6 (Below.refl wr.heap.size wr).drew B9);have lD:Hid (RfAt (λb=>N b\/wr.heap.size<=b) w2 (qd4 t) g2):=j3 O4;have F8:wr.heap.size<=w2.heap.size:=B9.size;have fZ:¬w.heap.size=w2.heap.size:=(by omega);have KD:¬w2.heap.size=w.heap.size:=(by omega);have KC:¬lg=w2.heap.size:=(by omega);have KA:¬w2.heap.size=lg:=(by omega);have JZ:w.heap.size<w2.heap.size:=(by omega);have JY:lg<w2.heap.size:=(by omega);have AF:=q9 KX w2 (q9 fJ);clear B9 O4))
      all_goals
       go_wp2_with fail
       go_meet
       first
        | (have _q:=dN;exact⟨_,r3,rfl,j3 (OutAt.put (q9 G2) (Nat.le_refl _) Q9 (q9 fG) (λk hk=>by match k,hk with|0,_=>exact⟨_,p0⟩|1,_=>exact⟨_,p1⟩|2,_=>exact⟨_,p2⟩|3,_=>exact⟨_,p3⟩|4,_=>exact⟨_,p4⟩|5,_=>exact⟨_,p5⟩) pz (q9 dN))⟩)
        | (have _q:=uJ;exact⟨_,r3,rfl,j3 (OutAt.put (q9 G2) (q9 fJ).size Q9 (q9 fG) (λk hk=>by match k,hk with|0,_=>exact⟨_,p0⟩|1,_=>exact⟨_,p1⟩|2,_=>exact⟨_,p2⟩|3,_=>exact⟨_,p3⟩|4,_=>exact⟨_,p4⟩|5,_=>exact⟨_,p5⟩) pz (q9 uJ))⟩)
        | (have _q:=cE;exact⟨_,r3,rfl,j3 (OutAt.new (q9 G2) (q9 cE))⟩)
     case rest=>
      obtain⟨eb,re,rfl,HE⟩:=hcut;have P4:=j3 ((q9 HO).below (q9 HE).bel);have aI:=(q9 P4).cells;have nY:=(q9 HE).cells;have rN:=(q9 P4).lt;have MP:=(q9 HE).lt;have u0:wc.cell? ⟨ob,0,none⟩=some (.string r.op):=aI 0 (by omega);have u1:wc.cell? ⟨ob,1,none⟩=some (.string (BS r.text)):=aI 1 (by omega);have u2:wc.cell? ⟨ob,2,none⟩=some (.int .i64 r.cls):=aI 2 (by omega);have u3:wc.cell? ⟨ob,3,none⟩=some (.slice r.pa r.pn r.pc):=aI 3 (by omega);have u4:wc.cell? ⟨ob,4,none⟩=some (.slice r.ta r.tn r.tc):=aI 4 (by omega);have u5:wc.cell? ⟨ob,5,none⟩=some (.slice r.ra r.rn r.rc):=aI 5 (by omega);have v0:wc.cell? ⟨eb,0,none⟩=some (.string re.op):=nY 0 (by omega);have v1:wc.cell? ⟨eb,1,none⟩=some (.string (BS re.text)):=nY 1 (by omega);have v2:wc.cell? ⟨eb,2,none⟩=some (.int .i64 re.cls):=nY 2 (by omega);have v3:wc.cell? ⟨eb,3,none⟩=some (.slice re.pa re.pn re.pc):=nY 3 (by omega);have v4:wc.cell? ⟨eb,4,none⟩=some (.slice re.ta re.tn re.tc):=nY 4 (by omega);have v5:wc.cell? ⟨eb,5,none⟩=some (.slice re.ra re.rn re.rc):=nY 5 (by omega);have vA:=(q9 HE).bel.size
      have TWO:Hid (Calls prog 227 #[.string ⟨#[79,82]⟩,.agg #[.string r.op,.string (BS r.text),.int .i64 r.cls,.slice r.pa r.pn r.pc,.slice r.ta r.tn r.tc,.slice r.ra r.rn r.rc],.agg #[.string re.op,.string (BS re.text),.int .i64 re.cls,.slice re.pa re.pn re.pc,.slice re.ta re.tn re.tc,.slice re.ra re.rn re.rc]] wc λe w'=>Below wc.heap.size wc w'/\∃s:RF,e=.returned (.agg #[.string s.op,.string (BS s.text),.int .i64 s.cls,.slice s.pa s.pn s.pc,.slice s.ta s.tn s.tc,.slice s.ra s.rn s.rc])/\RfAt (λb=>N b\/(w1.heap.size<=b/\b≠ob)) w' (j9 7 (amK x S k) (j9 8 x (qd4 t))) s):=j3 (jg5 (o:=7) (by simp[qe8]) (q9 P4).bel (q9 P4).rf ((q9 HE).rf.keep (λ_ _ _=>rfl) (Nat.le_refl _) (λb h _=>by
       rcases h with h|h
       ·exact .inl h
       ·exact .inr ⟨by omega,by omega⟩)) rN (q9 BA) (q9 BP))
      clear aI nY
      go_wp2_with(go_at_call 227;refine(q9 TWO).mono ?_;rintro e w5⟨S4,s,rfl,rA⟩;have fC:=j3 ((q9 P4).below S4);have m8:=(q9 fC).cells;have x0:w5.cell? ⟨ob,0,none⟩=some (.string r.op):=m8 0 (by omega);have x1:w5.cell? ⟨ob,1,none⟩=some (.string (BS r.text)):=m8 1 (by omega);have x2:w5.cell? ⟨ob,2,none⟩=some (.int .i64 r.cls):=m8 2 (by omega);have x3:w5.cell? ⟨ob,3,none⟩=some (.slice r.pa r.pn r.pc):=m8 3 (by omega);have x4:w5.cell? ⟨ob,4,none⟩=some (.slice r.ta r.tn r.tc):=m8 4 (by omega);have x5:w5.cell? ⟨ob,5,none⟩=some (.slice r.ra r.rn r.rc):=m8 5 (by omega);have xz:=(q9 fC).fz;have xl:=(q9 fC).lt;have OU:=j3 rA;clear S4 m8 rA)
      go_roundw
      case rel=>exact⟨k+1,s,by omega,by omega,by go_num,j3 (by rw[q9 qF];exact OutAt.put (q9 fC).bel xZ xl (q9 kV) (λk hk=>by match k,hk with|0,_=>exact⟨_,x0⟩|1,_=>exact⟨_,x1⟩|2,_=>exact⟨_,x2⟩|3,_=>exact⟨_,x3⟩|4,_=>exact⟨_,x4⟩|5,_=>exact⟨_,x5⟩) xz (q9 OU))⟩
      case measure=>simp[intOf];omega
    ·have t9:k=S.length:=by omega
     have vK:¬(k:Int)<(S.length:Int):=by omega
     have tN:amK x S k=qh1 x ts:=by rw[t9,←q9 HS];exact amK_all (by rw[q9 HS];exact tD)
     rw[tN]at HO;have aI:=(q9 HO).cells;have u0:wr.cell? ⟨ob,0,none⟩=some (.string r.op):=aI 0 (by omega);have u1:wr.cell? ⟨ob,1,none⟩=some (.string (BS r.text)):=aI 1 (by omega);have u2:wr.cell? ⟨ob,2,none⟩=some (.int .i64 r.cls):=aI 2 (by omega);have u3:wr.cell? ⟨ob,3,none⟩=some (.slice r.pa r.pn r.pc):=aI 3 (by omega);have u4:wr.cell? ⟨ob,4,none⟩=some (.slice r.ta r.tn r.tc):=aI 4 (by omega);have u5:wr.cell? ⟨ob,5,none⟩=some (.slice r.ra r.rn r.rc):=aI 5 (by omega);have q0:wr.cell? ⟨w.heap.size+1,0,none⟩=some (.string ⟨#[]⟩):=((qb0 Z3).1 _ _ (by omega)).trans Q0;have q1:wr.cell? ⟨w.heap.size+1,1,none⟩=some (.string ⟨#[]⟩):=((qb0 Z3).1 _ _ (by omega)).trans Q1;have q2:wr.cell? ⟨w.heap.size+1,2,none⟩=some (.int .i64 0):=((qb0 Z3).1 _ _ (by omega)).trans Q2;have q3:wr.cell? ⟨w.heap.size+1,3,none⟩=some (.slice none 0 0):=((qb0 Z3).1 _ _ (by omega)).trans Q3;have q4:wr.cell? ⟨w.heap.size+1,4,none⟩=some (.slice none 0 0):=((qb0 Z3).1 _ _ (by omega)).trans Q4;have q5:wr.cell? ⟨w.heap.size+1,5,none⟩=some (.slice none 0 0):=((qb0 Z3).1 _ _ (by omega)).trans Q5;have qz:∀i,wr.frozen? ⟨w.heap.size+1,i,none⟩=false:=λi=>((qb0 Z3).2 _ i (by omega)).trans (QZ i)
     have ql:w.heap.size+1<wr.heap.size:=by omega
     have nq:¬ob=w.heap.size+1:=by omega
     have dS:=j3 (j6 (q9 CZ) Z3);clear t9 tN aI
     go_wp2_with fail
     refine bodyPost_ret (by simp[results,results228,go_sem,q0,q1,q2,q3,q4,q5]<;>rfl) rfl ?_;have hs:=qi2 wr (w.heap.size+1) (.string r.op) (.string (BS r.text)) (.int .i64 r.cls) (.slice r.pa r.pn r.pc) (.slice r.ta r.tn r.tc) (.slice r.ra r.rn r.rc);exact⟨hs.bel _ _ (by omega) (q9 dS),r,rfl,hs.rf (q9 HO).rf (by rintro (h|h);have:=q9 kV _ h;have:=hN _ h;omega;have:=h.1;omega) (λb h _=>by rcases h with h|h;exact .inl h;exact .inr (by have:=h.1;omega))⟩
end
section
abbrev cV(f:RF):Array Value:=#[.string f.op,.string (BS f.text),.int .i64 f.cls,.slice f.pa f.pn f.pc,.slice f.ta f.tn f.tc,.slice f.ra f.rn f.rc]
structure CnAt(w W:World)(x0 x1 x2 x3 x4 x5 x6 x7 x8:Value):Prop where
 n0:W.cell? ⟨w.heap.size,0,none⟩=some x0
 n1:W.cell? ⟨w.heap.size,1,none⟩=some x1
 n2:W.cell? ⟨w.heap.size,2,none⟩=some x2
 n3:W.cell? ⟨w.heap.size,3,none⟩=some x3
 n4:W.cell? ⟨w.heap.size,4,none⟩=some x4
 n5:W.cell? ⟨w.heap.size,5,none⟩=some x5
 n6:W.cell? ⟨w.heap.size,6,none⟩=some x6
 n7:W.cell? ⟨w.heap.size,7,none⟩=some x7
 n8:W.cell? ⟨w.heap.size,8,none⟩=some x8
 r0:W.cell? ⟨w.heap.size+1,0,none⟩=some (.string ⟨#[]⟩)
 r1:W.cell? ⟨w.heap.size+1,1,none⟩=some (.string ⟨#[]⟩)
 r2:W.cell? ⟨w.heap.size+1,2,none⟩=some (.int .i64 0)
 r3:W.cell? ⟨w.heap.size+1,3,none⟩=some (.slice none 0 0)
 r4:W.cell? ⟨w.heap.size+1,4,none⟩=some (.slice none 0 0)
 r5:W.cell? ⟨w.heap.size+1,5,none⟩=some (.slice none 0 0)
 rz:∀i,W.frozen? ⟨w.heap.size+1,i,none⟩=false
 rl:w.heap.size+1<W.heap.size
 a0:¬w.heap.size=W.heap.size
 a1:¬w.heap.size+1=W.heap.size
 a2:¬W.heap.size=w.heap.size
 a3:¬W.heap.size=w.heap.size+1
section
variable {w W W':World} {x0 x1 x2 x3 x4 x5 x6 x7 x8:Value}
theorem CnAt.below(h:CnAt w W x0 x1 x2 x3 x4 x5 x6 x7 x8)(hb:Below W.heap.size W W'):CnAt w W' x0 x1 x2 x3 x4 x5 x6 x7 x8:=by
 obtain⟨hc,hf⟩:=qb0 hb;have hl:=h.rl;have hz:=hb.size;have hn:w.heap.size<W.heap.size:=by omega
 exact⟨(hc _ _ hn).trans h.n0,(hc _ _ hn).trans h.n1,(hc _ _ hn).trans h.n2,(hc _ _ hn).trans h.n3,(hc _ _ hn).trans h.n4,(hc _ _ hn).trans h.n5,(hc _ _ hn).trans h.n6,(hc _ _ hn).trans h.n7,(hc _ _ hn).trans h.n8,(hc _ _ hl).trans h.r0,(hc _ _ hl).trans h.r1,(hc _ _ hl).trans h.r2,(hc _ _ hl).trans h.r3,(hc _ _ hl).trans h.r4,(hc _ _ hl).trans h.r5,λi=>(hf _ i hl).trans (h.rz i),by omega,by omega,by omega,by omega,by omega⟩
theorem CnAt.alloc(h:CnAt w W x0 x1 x2 x3 x4 x5 x6 x7 x8)(o:Obj):CnAt w (W.alloc o) x0 x1 x2 x3 x4 x5 x6 x7 x8:=h.below ((Below.refl _ _).alloc (Nat.le_refl _) o)
theorem CnAt.drew(h:CnAt w W x0 x1 x2 x3 x4 x5 x6 x7 x8):CnAt w W.drew x0 x1 x2 x3 x4 x5 x6 x7 x8:=⟨h.n0,h.n1,h.n2,h.n3,h.n4,h.n5,h.n6,h.n7,h.n8,h.r0,h.r1,h.r2,h.r3,h.r4,h.r5,h.rz,h.rl,h.a0,h.a1,h.a2,h.a3⟩
theorem qm0:CnAt w ((w.alloc (.cells #[x0,x1,x2,x3,x4,x5,x6,x7,x8] 241)).alloc (.cells #[.string ⟨#[]⟩,.string ⟨#[]⟩,.int .i64 0,.slice none 0 0,.slice none 0 0,.slice none 0 0] 184)) x0 x1 x2 x3 x4 x5 x6 x7 x8:=by
 refine⟨?_, ?_, ?_, ?_, ?_, ?_, ?_, ?_, ?_, ?_, ?_, ?_, ?_, ?_, ?_,λi=>?_, ?_, ?_, ?_, ?_, ?_⟩<;>simp[go_sem]<;>omega
end
def qg0(w:World)(PZ:RF->World->Prop):Prop:=∀W,Below w.heap.size w W->w.heap.size+1+1<=W.heap.size->Calls prog 224 #[.string ⟨#[110,117,109,98,101,114]⟩,.string ⟨#[48]⟩,.int .i64 2,.int .i64 0] W λe w'=>Below W.heap.size W w'/\∃z:RF,e=.returned z.v/\PZ z w'
def qi4(w:World)(PZ P:RF->World->Prop)(fn:Nat)(args:RF->Array Value):Prop:=∀wz z W,Below w.heap.size w wz->w.heap.size+1<wz.heap.size->PZ z wz->Below wz.heap.size wz W->Calls prog fn (args z) W λe w'=>Below W.heap.size W w'/\∃r:RF,e=.returned r.v/\P r w'
def qh9(w:World)(P:RF->World->Prop)(Q:Ending->World->Prop):Prop:=∀r w1 w',Below w.heap.size w w1->P r w1->SixAt (w.heap.size+1) w1 w'->Q (.returned r.v) w'
theorem rowC1{W:World}{b:Nat}{g:RF}(hh:∀k,k<6->W.cell? ⟨b,k,none⟩=(qa2 g)[k]?):W.cell? ⟨b,0,none⟩=some (.string g.op)/\W.cell? ⟨b,1,none⟩=some (.string (BS g.text))/\W.cell? ⟨b,2,none⟩=some (.int .i64 g.cls)/\W.cell? ⟨b,3,none⟩=some (.slice g.pa g.pn g.pc)/\W.cell? ⟨b,4,none⟩=some (.slice g.ta g.tn g.tc)/\W.cell? ⟨b,5,none⟩=some (.slice g.ra g.rn g.rc):=⟨hh 0 (by omega),hh 1 (by omega),hh 2 (by omega),hh 3 (by omega),hh 4 (by omega),hh 5 (by omega)⟩
theorem rowC2{W:World}{b:Nat}{g h:RF}(hh:∀k,k<12->W.cell? ⟨b,k,none⟩=(qa2 g++qa2 h)[k]?):W.cell? ⟨b,0,none⟩=some (.string g.op)/\W.cell? ⟨b,1,none⟩=some (.string (BS g.text))/\W.cell? ⟨b,2,none⟩=some (.int .i64 g.cls)/\W.cell? ⟨b,3,none⟩=some (.slice g.pa g.pn g.pc)/\W.cell? ⟨b,4,none⟩=some (.slice g.ta g.tn g.tc)/\W.cell? ⟨b,5,none⟩=some (.slice g.ra g.rn g.rc)/\W.cell? ⟨b,6,none⟩=some (.string h.op)/\W.cell? ⟨b,7,none⟩=some (.string (BS h.text))/\W.cell? ⟨b,8,none⟩=some (.int .i64 h.cls)/\W.cell? ⟨b,9,none⟩=some (.slice h.pa h.pn h.pc)/\W.cell? ⟨b,10,none⟩=some (.slice h.ta h.tn h.tc)/\W.cell? ⟨b,11,none⟩=some (.slice h.ra h.rn h.rc):=⟨hh 0 (by omega),hh 1 (by omega),hh 2 (by omega),hh 3 (by omega),hh 4 (by omega),hh 5 (by omega),hh 6 (by omega),hh 7 (by omega),hh 8 (by omega),hh 9 (by omega),hh 10 (by omega),hh 11 (by omega)⟩
theorem rowC3{W:World}{b:Nat}{g h j:RF}(hh:∀k,k<18->W.cell? ⟨b,k,none⟩=(qa2 g++qa2 h++qa2 j)[k]?):W.cell? ⟨b,0,none⟩=some (.string g.op)/\W.cell? ⟨b,1,none⟩=some (.string (BS g.text))/\W.cell? ⟨b,2,none⟩=some (.int .i64 g.cls)/\W.cell? ⟨b,3,none⟩=some (.slice g.pa g.pn g.pc)/\W.cell? ⟨b,4,none⟩=some (.slice g.ta g.tn g.tc)/\W.cell? ⟨b,5,none⟩=some (.slice g.ra g.rn g.rc)/\W.cell? ⟨b,6,none⟩=some (.string h.op)/\W.cell? ⟨b,7,none⟩=some (.string (BS h.text))/\W.cell? ⟨b,8,none⟩=some (.int .i64 h.cls)/\W.cell? ⟨b,9,none⟩=some (.slice h.pa h.pn h.pc)/\W.cell? ⟨b,10,none⟩=some (.slice h.ta h.tn h.tc)/\W.cell? ⟨b,11,none⟩=some (.slice h.ra h.rn h.rc)/\W.cell? ⟨b,12,none⟩=some (.string j.op)/\W.cell? ⟨b,13,none⟩=some (.string (BS j.text))/\W.cell? ⟨b,14,none⟩=some (.int .i64 j.cls)/\W.cell? ⟨b,15,none⟩=some (.slice j.pa j.pn j.pc)/\W.cell? ⟨b,16,none⟩=some (.slice j.ta j.tn j.tc)/\W.cell? ⟨b,17,none⟩=some (.slice j.ra j.rn j.rc):=⟨hh 0 (by omega),hh 1 (by omega),hh 2 (by omega),hh 3 (by omega),hh 4 (by omega),hh 5 (by omega),hh 6 (by omega),hh 7 (by omega),hh 8 (by omega),hh 9 (by omega),hh 10 (by omega),hh 11 (by omega),hh 12 (by omega),hh 13 (by omega),hh 14 (by omega),hh 15 (by omega),hh 16 (by omega),hh 17 (by omega)⟩
theorem kb1{w:World}{b:Nat}{g:RF}(M5:b<w.heap.size)(hc:∀k,k<6->w.cell? ⟨b,k,none⟩=(qa2 g)[k]?):Hid (∀W,Below w.heap.size w W->(W.cell? ⟨b,0,none⟩=some (.string g.op)/\W.cell? ⟨b,1,none⟩=some (.string (BS g.text))/\W.cell? ⟨b,2,none⟩=some (.int .i64 g.cls)/\W.cell? ⟨b,3,none⟩=some (.slice g.pa g.pn g.pc)/\W.cell? ⟨b,4,none⟩=some (.slice g.ta g.tn g.tc)/\W.cell? ⟨b,5,none⟩=some (.slice g.ra g.rn g.rc))):=j3 λ_ hb=>rowC1 λi hi=>(hb.cell (p:=⟨b,i,none⟩) M5).trans (hc i hi)
theorem kb2{w:World}{b:Nat}{g h:RF}(M5:b<w.heap.size)(hc:∀k,k<12->w.cell? ⟨b,k,none⟩=(qa2 g++qa2 h)[k]?):Hid (∀W,Below w.heap.size w W->(W.cell? ⟨b,0,none⟩=some (.string g.op)/\W.cell? ⟨b,1,none⟩=some (.string (BS g.text))/\W.cell? ⟨b,2,none⟩=some (.int .i64 g.cls)/\W.cell? ⟨b,3,none⟩=some (.slice g.pa g.pn g.pc)/\W.cell? ⟨b,4,none⟩=some (.slice g.ta g.tn g.tc)/\W.cell? ⟨b,5,none⟩=some (.slice g.ra g.rn g.rc)/\W.cell? ⟨b,6,none⟩=some (.string h.op)/\W.cell? ⟨b,7,none⟩=some (.string (BS h.text))/\W.cell? ⟨b,8,none⟩=some (.int .i64 h.cls)/\W.cell? ⟨b,9,none⟩=some (.slice h.pa h.pn h.pc)/\W.cell? ⟨b,10,none⟩=some (.slice h.ta h.tn h.tc)/\W.cell? ⟨b,11,none⟩=some (.slice h.ra h.rn h.rc))):=j3 λ_ hb=>rowC2 λi hi=>(hb.cell (p:=⟨b,i,none⟩) M5).trans (hc i hi)
theorem kb3{w:World}{b:Nat}{g h j:RF}(M5:b<w.heap.size)(hc:∀k,k<18->w.cell? ⟨b,k,none⟩=(qa2 g++qa2 h++qa2 j)[k]?):Hid (∀W,Below w.heap.size w W->(W.cell? ⟨b,0,none⟩=some (.string g.op)/\W.cell? ⟨b,1,none⟩=some (.string (BS g.text))/\W.cell? ⟨b,2,none⟩=some (.int .i64 g.cls)/\W.cell? ⟨b,3,none⟩=some (.slice g.pa g.pn g.pc)/\W.cell? ⟨b,4,none⟩=some (.slice g.ta g.tn g.tc)/\W.cell? ⟨b,5,none⟩=some (.slice g.ra g.rn g.rc)/\W.cell? ⟨b,6,none⟩=some (.string h.op)/\W.cell? ⟨b,7,none⟩=some (.string (BS h.text))/\W.cell? ⟨b,8,none⟩=some (.int .i64 h.cls)/\W.cell? ⟨b,9,none⟩=some (.slice h.pa h.pn h.pc)/\W.cell? ⟨b,10,none⟩=some (.slice h.ta h.tn h.tc)/\W.cell? ⟨b,11,none⟩=some (.slice h.ra h.rn h.rc)/\W.cell? ⟨b,12,none⟩=some (.string j.op)/\W.cell? ⟨b,13,none⟩=some (.string (BS j.text))/\W.cell? ⟨b,14,none⟩=some (.int .i64 j.cls)/\W.cell? ⟨b,15,none⟩=some (.slice j.pa j.pn j.pc)/\W.cell? ⟨b,16,none⟩=some (.slice j.ta j.tn j.tc)/\W.cell? ⟨b,17,none⟩=some (.slice j.ra j.rn j.rc))):=j3 λ_ hb=>rowC3 λi hi=>(hb.cell (p:=⟨b,i,none⟩) M5).trans (hc i hi)
theorem vn9{w:World}{a N c:Int}{iv lv inv:Value}{S E:ByteArray}{neg:Bool}{O:ByteArray}(ho:O=⟨#[84,82,85,69]⟩\/O=⟨#[70,65,76,83,69]⟩)
  {PZ P:RF->World->Prop} (HZ:qg0 w PZ) (H1:qi4 w PZ P 224 λ_=>#[.string O,.string O,.int .i64 1,.int .i64 0])
  {Q:Ending->World->Prop} (HQ:qh9 w P Q):Calls prog 178 #[.agg #[.string O,.int .i64 a,iv,.string S,.string E,lv,.int .i64 N,.bool neg,.int .i64 c],inv] w Q:=by
 have DZ:=j3 HZ;have D1:=j3 H1;have I7:=j3 HQ;simp only[qg0,qi4,qh9,RF.v]at DZ D1 I7;have J8:Hid (Below w.heap.size w ((w.alloc (.cells #[.string O,.int .i64 a,iv,.string S,.string E,lv,.int .i64 N,.bool neg,.int .i64 c] 241)).alloc (.cells #[.string ⟨#[]⟩,.string ⟨#[]⟩,.int .i64 0,.slice none 0 0,.slice none 0 0,.slice none 0 0] 184))):=j3 (((Below.refl _ _).alloc (Nat.le_refl _) _).alloc (by simp) _);clear HZ H1 HQ;rcases ho with rfl|rfl
 all_goals go_enter func178,ntmps178
 all_goals go_wp2_with(first|(go_at_call 224;refine(q9 D1 _ _ _ (q9 J5) rl (q9 V0) (q9 J6)).mono ?_;rintro e w1⟨A7,r,rfl,hp⟩;have E7:=j3 (j6 (j6 (q9 J5) (q9 J6)) A7);obtain⟨-,-,-,-,-,-,-,-,-,q0,q1,q2,q3,q4,q5,qz,ql,-,-,-,-⟩:=(q9 L0).below A7;have P0:=j3 hp;clear A7 hp)|(go_at_call 224;refine(q9 DZ _ (q9 J8) (by simp)).mono ?_;rintro e wz⟨G9,z,rfl,M3⟩;have J5:=j3 (j6 (q9 J8) G9);have M9:=qm0.below G9;have L0:=j3 (M9.alloc (.cells (cV z) 184));have J6:=j3 ((Below.refl wz.heap.size wz).alloc (Nat.le_refl _) (.cells (cV z) 184));have V0:=j3 M3;obtain⟨n0,-,-,-,-,-,-,-,-,r0,r1,r2,r3,r4,r5,rz,rl,dZ,dY,dX,dW⟩:=M9;obtain⟨m0,-,-,-,-,-,-,-,-,s0,s1,s2,s3,s4,s5,sz,sl,-,-,-,-⟩:=q9 L0;clear G9 M3))
 all_goals refine bodyPost_ret (by simp[results,results178,go_sem,q0,q1,q2,q3,q4,q5]<;>rfl) rfl ?_
 all_goals exact q9 I7 r w1 _ (q9 E7) (q9 P0) (qi2 _ _ _ _ _ _ _ _)
theorem jx7{w:World}{a N c:Int}{iv lv inv:Value}{S E:ByteArray}{neg:Bool}
  {PZ P:RF->World->Prop} (HZ:qg0 w PZ) (H1:qi4 w PZ P 224 λ_=>#[.string ⟨#[110,97,109,101]⟩,.string S,.int .i64 0,.int .i64 (S.size:Nat)])
  {Q:Ending->World->Prop} (HQ:qh9 w P Q):Calls prog 178 #[.agg #[.string ⟨#[110,97,109,101]⟩,.int .i64 a,iv,.string S,.string E,lv,.int .i64 N,.bool neg,.int .i64 c],inv] w Q:=by
 have DZ:=j3 HZ;have D1:=j3 H1;have I7:=j3 HQ;simp only[qg0,qi4,qh9,RF.v]at DZ D1 I7;have J8:Hid (Below w.heap.size w ((w.alloc (.cells #[.string ⟨#[110,97,109,101]⟩,.int .i64 a,iv,.string S,.string E,lv,.int .i64 N,.bool neg,.int .i64 c] 241)).alloc (.cells #[.string ⟨#[]⟩,.string ⟨#[]⟩,.int .i64 0,.slice none 0 0,.slice none 0 0,.slice none 0 0] 184))):=j3 (((Below.refl _ _).alloc (Nat.le_refl _) _).alloc (by simp) _);clear HZ H1 HQ;go_enter func178,ntmps178
 go_wp2_with(first|(go_at_call 224;refine(q9 D1 _ _ _ (q9 J5) rl (q9 V0) (q9 J6)).mono ?_;rintro e w1⟨A7,r,rfl,hp⟩;have E7:=j3 (j6 (j6 (q9 J5) (q9 J6)) A7);obtain⟨-,-,-,-,-,-,-,-,-,q0,q1,q2,q3,q4,q5,qz,ql,-,-,-,-⟩:=(q9 L0).below A7;have P0:=j3 hp;clear A7 hp)|(go_at_call 224;refine(q9 DZ _ (q9 J8) (by simp)).mono ?_;rintro e wz⟨G9,z,rfl,M3⟩;have J5:=j3 (j6 (q9 J8) G9);have M9:=qm0.below G9;have L0:=j3 (M9.alloc (.cells (cV z) 184));have J6:=j3 ((Below.refl wz.heap.size wz).alloc (Nat.le_refl _) (.cells (cV z) 184));have V0:=j3 M3;obtain⟨n0,-,-,n3,-,-,-,-,-,r0,r1,r2,r3,r4,r5,rz,rl,dZ,dY,dX,dW⟩:=M9;obtain⟨m0,-,-,m3,-,-,-,-,-,s0,s1,s2,s3,s4,s5,sz,sl,-,-,-,-⟩:=q9 L0;clear G9 M3))
 all_goals refine bodyPost_ret (by simp[results,results178,go_sem,q0,q1,q2,q3,q4,q5]<;>rfl) rfl ?_
 all_goals exact q9 I7 r w1 _ (q9 E7) (q9 P0) (qi2 _ _ _ _ _ _ _ _)
theorem je1{w:World}{a N c:Int}{iv lv inv:Value}{S E:ByteArray}{neg:Bool}{QB:ByteArray}(HT:∀W,Calls prog 225 #[.int .i64 N] W λe w'=>e=.returned (.string QB)/\Below W.heap.size W w')
  {PZ P:RF->World->Prop} (HZ:qg0 w PZ) (H1:qi4 w PZ P 224 λ_=>#[.string ⟨#[110,117,109,98,101,114]⟩,.string QB,.int .i64 2,.int .i64 0])
  {Q:Ending->World->Prop} (HQ:qh9 w P Q):Calls prog 178 #[.agg #[.string ⟨#[110,117,109,98,101,114]⟩,.int .i64 a,iv,.string S,.string E,lv,.int .i64 N,.bool neg,.int .i64 c],inv] w Q:=by
 have DZ:=j3 HZ;have D1:=j3 H1;have I7:=j3 HQ;simp only[qg0,qi4,qh9,RF.v]at DZ D1 I7;have J8:Hid (Below w.heap.size w ((w.alloc (.cells #[.string ⟨#[110,117,109,98,101,114]⟩,.int .i64 a,iv,.string S,.string E,lv,.int .i64 N,.bool neg,.int .i64 c] 241)).alloc (.cells #[.string ⟨#[]⟩,.string ⟨#[]⟩,.int .i64 0,.slice none 0 0,.slice none 0 0,.slice none 0 0] 184))):=j3 (((Below.refl _ _).alloc (Nat.le_refl _) _).alloc (by simp) _);clear HZ H1 HQ;have DT:=j3 HT;clear HT;go_enter func178,ntmps178
 go_wp2_with(first|(go_at_call 224;refine(q9 D1 _ _ _ (q9 J5) rl (q9 V0) (q9 J6)).mono ?_;rintro e w1⟨A7,r,rfl,hp⟩;have E7:=j3 (j6 (j6 (q9 J5) (q9 J6)) A7);obtain⟨-,-,-,-,-,-,-,-,-,q0,q1,q2,q3,q4,q5,qz,ql,-,-,-,-⟩:=(q9 L0).below A7;have P0:=j3 hp;clear A7 hp)|(go_at_call 225;refine(q9 DT _).mono ?_;rintro e wn⟨rfl,jF⟩;have J6:=j3 (j6 (q9 J6) jF);have L0:=j3 ((q9 L0).below jF);clear jF)|(go_at_call 224;refine(q9 DZ _ (q9 J8) (by simp)).mono ?_;rintro e wz⟨G9,z,rfl,M3⟩;have J5:=j3 (j6 (q9 J8) G9);have M9:=qm0.below G9;have L0:=j3 (M9.alloc (.cells (cV z) 184));have J6:=j3 ((Below.refl wz.heap.size wz).alloc (Nat.le_refl _) (.cells (cV z) 184));have V0:=j3 M3;obtain⟨n0,-,-,-,-,-,n6,-,-,r0,r1,r2,r3,r4,r5,rz,rl,dZ,dY,dX,dW⟩:=M9;obtain⟨m0,-,-,-,-,-,m6,-,-,s0,s1,s2,s3,s4,s5,sz,sl,-,-,-,-⟩:=q9 L0;clear G9 M3))
 all_goals refine bodyPost_ret (by simp[results,results178,go_sem,q0,q1,q2,q3,q4,q5]<;>rfl) rfl ?_
 all_goals exact q9 I7 r w1 _ (q9 E7) (q9 P0) (qi2 _ _ _ _ _ _ _ _)
theorem jx9{w:World}{a N c:Int}{iv lv inv:Value}{S E:ByteArray}{neg:Bool}{QB:ByteArray}(HT:∀W,Calls prog 226 #[.string S] W λe w'=>e=.returned (.string QB)/\w'=W)
  {PZ P:RF->World->Prop} (HZ:qg0 w PZ) (H1:qi4 w PZ P 224 λ_=>#[.string ⟨#[116,101,120,116]⟩,.string QB,.int .i64 3,.int .i64 (S.size:Nat)])
  {Q:Ending->World->Prop} (HQ:qh9 w P Q):Calls prog 178 #[.agg #[.string ⟨#[116,101,120,116]⟩,.int .i64 a,iv,.string S,.string E,lv,.int .i64 N,.bool neg,.int .i64 c],inv] w Q:=by
 have DZ:=j3 HZ;have D1:=j3 H1;have I7:=j3 HQ;simp only[qg0,qi4,qh9,RF.v]at DZ D1 I7;have J8:Hid (Below w.heap.size w ((w.alloc (.cells #[.string ⟨#[116,101,120,116]⟩,.int .i64 a,iv,.string S,.string E,lv,.int .i64 N,.bool neg,.int .i64 c] 241)).alloc (.cells #[.string ⟨#[]⟩,.string ⟨#[]⟩,.int .i64 0,.slice none 0 0,.slice none 0 0,.slice none 0 0] 184))):=j3 (((Below.refl _ _).alloc (Nat.le_refl _) _).alloc (by simp) _);clear HZ H1 HQ;have DT:=j3 HT;clear HT;go_enter func178,ntmps178
 go_wp2_with(go_at_call 224;refine(q9 DZ _ (q9 J8) (by simp)).mono ?_;rintro e wz⟨G9,z,rfl,M3⟩;have J5:=j3 (j6 (q9 J8) G9);have M9:=qm0.below G9;have L0:=j3 (M9.alloc (.cells (cV z) 184));have J6:=j3 ((Below.refl wz.heap.size wz).alloc (Nat.le_refl _) (.cells (cV z) 184));have V0:=j3 M3;obtain⟨n0,-,-,n3,-,-,-,-,-,r0,r1,r2,r3,r4,r5,rz,rl,dZ,dY,dX,dW⟩:=M9;obtain⟨m0,-,-,m3,-,-,-,-,-,s0,s1,s2,s3,s4,s5,sz,sl,-,-,-,-⟩:=q9 L0;clear G9 M3)
 go_region_held3 (λW=>W.cell? ⟨w.heap.size,3,none⟩=some (.string S)) (first|with_reducible assumption|go_keep) (first|(go_at_call 224;refine(q9 D1 _ _ _ (q9 J5) rl (q9 V0) (q9 J6).drew).mono ?_;rintro e w1⟨A7,r,rfl,hp⟩;have E7:=j3 (j6 (j6 (q9 J5) (q9 J6).drew) A7);obtain⟨-,-,-,oI,-,-,-,-,-,q0,q1,q2,q3,q4,q5,qz,ql,-,-,-,-⟩:=(q9 L0).drew.below A7;have P0:=j3 hp;have hS:(w1.cell? ⟨w.heap.size,3,none⟩=some (.string S)):=oI;clear A7 hp)|(go_at_call 226;refine(q9 DT _).mono ?_;rintro e wq⟨rfl,hq⟩;subst wq))
 go_wp2_with fail
 all_goals refine bodyPost_ret (by simp[results,results178,go_sem,q0,q1,q2,q3,q4,q5]<;>rfl) rfl ?_
 all_goals exact q9 I7 r w1 _ (q9 E7) (q9 P0) (qi2 _ _ _ _ _ _ _ _)
end
end Go.Proofs.YtfkcaldjphakpaaGreatDoor
