/- The document's answer: a name is one of some texts. The document's answer: the core of a node: leaves. -/
import Derived.Test.YtfkcaldjphakpaaGreatDoorM37
import Derived.Deep.RegionHeld3
set_option maxHeartbeats 32000000
set_option maxRecDepth 100000
namespace Go.Proofs.YtfkcaldjphakpaaGreatDoor
open Go.RowKit
section
attribute [local go_sem ↓] qj6
theorem jk1 {N:Nat→Prop} {w:World} {x:Co} {f:RF} {ts:List (List UInt8)} {la:Option Addr} {lc:Nat} (hx:RfAt N w x f) (hN:∀b,N b→b<w.heap.size) (hts:TxtAt w (.slice la ts.length lc) ts) (hne:ts≠[]) (hlen:ts.length≤1000) (hst:∀t∈ts,t.length≤1000) (bx:qt8 x) (hb1:∀t∈ts,qt8 (qd9 t)) (hb2:∀t∈ts,qt8 (j8 8 x (qd9 t))) (hb3:∀i,1≤i→i≤(qf4 ts).length→qt8 (amK x (qf4 ts) i)) :
  Calls Tryz.prog 228 #[f.v,.slice la ts.length lc] w (qp5 N w (qk7 x ts)):=by
 obtain ⟨S,hS⟩:∃S,qf4 ts=S:=⟨_,rfl⟩
 obtain ⟨n,hn⟩:∃n,ts.length=n:=⟨_,rfl⟩
 have hSl:S.length≤n:=by
  rw [←hS,←hn]
  exact va1 ts
 have HTS:Hid (∀k t,ts[k]?=some t→∃lb,la=some ⟨lb,0,none⟩∧lb<w.heap.size∧w.cell? ⟨lb,k,none⟩=some (.string (BS t))):=j4 (by
  obtain ⟨a,c,e,h⟩:=hts
  injection e with e1 _ _
  subst e1
  exact h)
 have HN:=j4 hn
 have HS:=j4 hS
 have HX:=j4 hx
 rw [hn] at hlen ⊢
 have M0:Hid (SelAt w f ((w.alloc (.cells #[.string f.op,.string (BS f.text),.int .i64 f.cls,.slice f.pa f.pn f.pc,.slice f.ta f.tn f.tc,.slice f.ra f.rn f.rc] 184)).alloc (.cells #[.string ⟨#[]⟩,.string ⟨#[]⟩,.int .i64 0,.slice none 0 0,.slice none 0 0,.slice none 0 0] 184)) (.slice none 0 0) (S.take 0)):=j4 ⟨World.ownsRow_nil _ _ _ _,Below.refl _ _⟩
 simp only [RF.v]
 clear hts hn hS hx
 go_enter Tryz.func228,Tryz.ntmps228
 go_upto_block 0 with fail
 go_cut [5] (fun s5 wx=>∃a c,s5=.slice a S.length c∧Hid (SelAt w f wx (.slice a S.length c) S))
 case first=>
  go_wp2_with fail
  go_loopw [5] (fun lv wr=>∃(k:Nat) (a:Option Addr) (c:Nat),k≤S.length∧lv=.slice a k c∧Hid (SelAt w f wr (.slice a k c) (S.take k))) (fun lv _=>n - sliceN lv)
  case atStart=>exact ⟨0,none,0,Nat.zero_le _,rfl,M0⟩
  case round=>
   clear M0
   obtain ⟨k,a,c,hk,rfl,HM⟩:=hrel
   by_cases hkn:k<n
   ·have hkn':(k:Int)<(n:Int):=by omega
    go_wp2_with fail
    obtain ⟨wo,rfl⟩:∃wo:World,wo=wr:=⟨_,rfl⟩
    go_loopw [6,7] (fun b i wq=>∃m:Nat,m≤n∧i=.int .i64 m∧b=.int .i64 (qh9 ts S k m)∧Hid (SelAt w f wq (.slice a k c) (S.take k))) (fun _ i _=>n - (intOf i).toNat)
    case atStart=>exact ⟨0,Nat.zero_le _,rfl,rfl,HM⟩
    case round=>
     clear HM
     obtain ⟨m,hm,rfl,rfl,HM⟩:=hrel
     have hbr:=vk8 ts S k m
     have hb0:=(q9 HM).bel0
     by_cases hmn:m<n
     ·obtain ⟨t,ht⟩:∃t,ts[m]?=some t:=⟨_,List.getElem?_eq_getElem (by have:=q9 HN;omega)⟩
      obtain ⟨lb,rfl,hlb,hlc⟩:=q9 HTS m t ht
      have htg:ts.getD m []=t:=by rw [List.getD_eq_getElem?_getD,ht];rfl
      have tl:wr.cell? ⟨lb,m,none⟩=some (.string (BS t)):=((qa9 hb0).1 _ _ hlb).trans hlc
      have hm0:(0:Int)≤(m:Int):=by omega
      have hm1:(m:Int)<(n:Int):=by omega
      obtain ⟨B,hB⟩:∃B,qh9 ts S k m=B:=⟨_,rfl⟩
      obtain ⟨L,hL⟩:∃L,qw6 S k t=L:=⟨_,rfl⟩
      have HNX:Hid (qh9 ts S k (m+1)=if L&&(decide (B<0)||Op.bytesLess t (ts.getD B.toNat [])) then (m:Int) else B):=j4 (by rw [qh9,htg,hB,hL])
      rw [hB] at hbr ⊢
      have HLT:=j4 hL
      have HTM:=j4 ht
      clear hB hL htg ht hlc
      go_wp2_with fail
      go_cut [8] (fun s8 wx=>s8=.bool L∧Hid (SelAt w f wx (.slice a k c) (S.take k)))
      case first=>
       by_cases hk0:k=0
       ·subst hk0
        have hLt:L=true:=by rw [←q9 HLT];rfl
        subst hLt
        go_quiet (fail)
        go_wp2_with fail
        go_meet
        exact ⟨rfl,j4 ((q9 HM).drewN _)⟩
       ·obtain ⟨k',rfl⟩:∃k',k=k'+1:=⟨k - 1,by omega⟩
        obtain ⟨u,hu⟩:∃u,S[k']?=some u:=⟨_,List.getElem?_eq_getElem (by omega)⟩
        obtain ⟨lg,lcap,e,hlo,hlg,hlu⟩:=(q9 HM).row.cell (k:=k') (t:=u) (by rw [List.getElem?_take_of_lt (by omega)];exact hu)
        injection e with e1 e2 e3
        subst e1
        have hLv:(!(Op.bytesLess (BS t).toList (BS u).toList||(BS t).toList==(BS u).toList))=L:=by
         rw [qe0,qe0,gtr_later,←q9 HLT]
         unfold qw6
         rw [Nat.add_sub_cancel,List.getD_eq_getElem?_getD,hu];simp
        have hz0:(((k':Int)+1)==0)=false:=by rw [beq_eq_false_iff_ne];omega
        have hi0:(0:Int)≤(k':Int):=by omega
        have hi1:(k':Int)<(k':Int)+1:=by omega
        clear hu e2 e3
        go_quiet (fail)
        go_wp2_with fail
        go_meet
        exact ⟨by rw [←hLv],j4 ((q9 HM).drewN _)⟩
      case rest=>
       obtain ⟨rfl,HM2⟩:=hcut
       have hb2:=(q9 HM2).bel0
       have tl2:wc.cell? ⟨lb,m,none⟩=some (.string (BS t)):=((qa9 hb2).1 _ _ hlb).trans ((((qa9 hb0).1 _ _ hlb).symm).trans tl)
       clear tl HM
       cases L with
       | false=>
        go_wp2_with fail
        go_quiet (fail)
        go_wp2_with fail
        go_roundw
        case rel=>exact ⟨m+1,by omega,by go_num,by rw [q9 HNX];rfl,j4 ((q9 HM2).drewN _)⟩
        case measure=>simp [intOf];omega
       | true=>
        by_cases hB:B<0
        ·have hBd:decide (B<0)=true:=decide_eq_true hB
         go_wp2_with fail
         go_quiet (fail)
         go_wp2_with fail
         go_roundw
         case rel=>exact ⟨m+1,by omega,by go_num,by rw [q9 HNX,hBd];rfl,j4 ((q9 HM2).drewN _)⟩
         case measure=>simp [intOf];omega
        ·have hBd:decide (B<0)=false:=decide_eq_false hB
         obtain ⟨b,rfl⟩:∃b:Nat,B=b:=⟨B.toNat,by omega⟩
         obtain ⟨u,hu⟩:∃u,ts[b]?=some u:=⟨_,List.getElem?_eq_getElem (by have:=q9 HN;omega)⟩
         obtain ⟨lb',e,hlb',hlu⟩:=q9 HTS b u hu
         injection e with e
         injection e with e
         subst e
         have ul:wc.cell? ⟨lb,b,none⟩=some (.string (BS u)):=((qa9 hb2).1 _ _ hlb).trans hlu
         have hb0':(0:Int)≤(b:Int):=by omega
         have hb1':(b:Int)<(n:Int):=by omega
         have HNX2:Hid (qh9 ts S k (m+1)=if Op.bytesLess t u then (m:Int) else b):=j4 (by
          rw [q9 HNX,hBd,Int.toNat_natCast,List.getD_eq_getElem?_getD,hu];simp)
         have hbl:Op.bytesLess (BS t).toList (BS u).toList=Op.bytesLess t u:=by rw [qe0,qe0]
         clear HNX hu hlu hbr
         cases hq:Op.bytesLess t u with
         | false=>
          rw [hq] at hbl HNX2
          go_wp2_with fail
          go_quiet (fail)
          go_wp2_with fail
          go_roundw
          case rel=>exact ⟨m+1,by omega,by go_num,by rw [q9 HNX2];rfl,j4 ((q9 HM2).drewN _)⟩
          case measure=>simp [intOf];omega
         | true=>
          rw [hq] at hbl HNX2
          go_wp2_with fail
          go_quiet (fail)
          go_wp2_with fail
          go_roundw
          case rel=>exact ⟨m+1,by omega,by go_num,by rw [q9 HNX2];rfl,j4 ((q9 HM2).drewN _)⟩
          case measure=>simp [intOf];omega
     ·have hme:m=n:=by omega
      have hmn':¬(m:Int)<(n:Int):=by omega
      have hnl:=q9 HN
      obtain ⟨B,hB⟩:∃B,qh9 ts S k m=B:=⟨_,rfl⟩
      have hB2:qh9 ts (qf4 ts) k ts.length=B:=by rw [q9 HS,hnl,←hme];exact hB
      rw [hB] at hbr ⊢
      by_cases hBn:B<0
      ·have hkS:k=S.length:=by have:=best_none (ts:=ts) (k:=k) (by rw [q9 HS];exact hk) (by rw [hB2];exact hBn);rw [this,q9 HS]
       have hBd:decide (B<0)=true:=decide_eq_true hBn
       clear hB hB2
       go_wp2_with fail
       go_meet
       subst hkS
       exact ⟨a,c,rfl,by have:=q9 HM;rw [List.take_length] at this;exact j4 this⟩
      ·have hBd:decide (B<0)=false:=decide_eq_false hBn
       obtain ⟨hk2,hnx⟩:=best_next (ts:=ts) (k:=k) (by rw [q9 HS];exact hk) (by rw [hB2];omega)
       rw [hB2,q9 HS] at hnx
       rw [q9 HS] at hk2
       obtain ⟨b,rfl⟩:∃b:Nat,B=b:=⟨B.toNat,by omega⟩
       obtain ⟨u,hu⟩:∃u,ts[b]?=some u:=⟨_,List.getElem?_eq_getElem (by omega)⟩
       obtain ⟨lb,rfl,hlb,hlu⟩:=q9 HTS b u hu
       have ul:wr.cell? ⟨lb,b,none⟩=some (.string (BS u)):=((qa9 hb0).1 _ _ hlb).trans hlu
       have hb0':(0:Int)≤(b:Int):=by omega
       have hb1':(b:Int)<(n:Int):=by omega
       have hSu:S.take (k+1)=S.take k++[u]:=by
        rw [List.take_add_one,List.getElem?_eq_getElem hk2]
        rw [Int.toNat_natCast,List.getD_eq_getElem?_getD,hu,List.getD_eq_getElem?_getD,List.getElem?_eq_getElem hk2] at hnx
        rw [←show u=S[k] from hnx];rfl
       have htl:(S.take k).length=k:=by rw [List.length_take];omega
       obtain ⟨g5,cap5,w5,hap,HR5,HB5⟩:=(q9 HM).row.app1 (q9 HM).size u (by omega) wr.heap.size rfl
       rw [←hSu,htl] at HR5
       rw [htl] at hap
       have HM5:Hid (SelAt w f w5 (.slice (some ⟨g5,0,none⟩) (k+1) cap5) (S.take (k+1))):=j4 ⟨q9 HR5,(q9 HM).bel.trans (q9 HB5)⟩
       clear hB hB2 hnx hu hlu hSu htl HR5 HB5
       go_wp2_with fail
       go_roundw
       case rel=>exact ⟨k+1,_,_,by omega,rfl,HM5⟩
       case measure=>simp [sliceN];omega
   ·have hkn':¬(k:Int)<(n:Int):=by omega
    have hkS:k=S.length:=by omega
    go_wp2_with fail
    go_meet
    subst hkS
    exact ⟨a,c,rfl,by have:=q9 HM;rw [List.take_length] at this;exact j4 this⟩
 case rest=>
  obtain ⟨a,c,rfl,HM⟩:=hcut
  obtain ⟨w1,rfl⟩:∃w1:World,w1=wc:=⟨_,rfl⟩
  have hSne:S≠[]:=by rw [←q9 HS];exact ve4 hne
  have hS0:0<S.length:=List.length_pos_iff.2 hSne
  obtain ⟨t0,ht0⟩:∃t,S[0]?=some t:=⟨_,List.getElem?_eq_getElem hS0⟩
  obtain ⟨lg,lcap,e,hlo,hlg,hl0⟩:=(q9 HM).row.cell (k:=0) ht0
  injection e with e1 _ _
  subst e1
  have hz1:=(q9 HM).size
  have hbel:=(q9 HM).bel
  have X0:w1.cell? ⟨w.heap.size,0,none⟩=some (.string f.op):=(hbel.cell (p:=⟨w.heap.size,0,none⟩) (by show w.heap.size<w.heap.size+1+1;omega)).trans (by simp [go_sem])
  have X1:w1.cell? ⟨w.heap.size,1,none⟩=some (.string (BS f.text)):=(hbel.cell (p:=⟨w.heap.size,1,none⟩) (by show w.heap.size<w.heap.size+1+1;omega)).trans (by simp [go_sem])
  have X2:w1.cell? ⟨w.heap.size,2,none⟩=some (.int .i64 f.cls):=(hbel.cell (p:=⟨w.heap.size,2,none⟩) (by show w.heap.size<w.heap.size+1+1;omega)).trans (by simp [go_sem])
  have X3:w1.cell? ⟨w.heap.size,3,none⟩=some (.slice f.pa f.pn f.pc):=(hbel.cell (p:=⟨w.heap.size,3,none⟩) (by show w.heap.size<w.heap.size+1+1;omega)).trans (by simp [go_sem])
  have X4:w1.cell? ⟨w.heap.size,4,none⟩=some (.slice f.ta f.tn f.tc):=(hbel.cell (p:=⟨w.heap.size,4,none⟩) (by show w.heap.size<w.heap.size+1+1;omega)).trans (by simp [go_sem])
  have X5:w1.cell? ⟨w.heap.size,5,none⟩=some (.slice f.ra f.rn f.rc):=(hbel.cell (p:=⟨w.heap.size,5,none⟩) (by show w.heap.size<w.heap.size+1+1;omega)).trans (by simp [go_sem])
  have Q0:w1.cell? ⟨w.heap.size+1,0,none⟩=some (.string ⟨#[]⟩):=(hbel.cell (p:=⟨w.heap.size+1,0,none⟩) (by show w.heap.size+1<w.heap.size+1+1;omega)).trans (by simp [go_sem])
  have Q1:w1.cell? ⟨w.heap.size+1,1,none⟩=some (.string ⟨#[]⟩):=(hbel.cell (p:=⟨w.heap.size+1,1,none⟩) (by show w.heap.size+1<w.heap.size+1+1;omega)).trans (by simp [go_sem])
  have Q2:w1.cell? ⟨w.heap.size+1,2,none⟩=some (.int .i64 0):=(hbel.cell (p:=⟨w.heap.size+1,2,none⟩) (by show w.heap.size+1<w.heap.size+1+1;omega)).trans (by simp [go_sem])
  have Q3:w1.cell? ⟨w.heap.size+1,3,none⟩=some (.slice none 0 0):=(hbel.cell (p:=⟨w.heap.size+1,3,none⟩) (by show w.heap.size+1<w.heap.size+1+1;omega)).trans (by simp [go_sem])
  have Q4:w1.cell? ⟨w.heap.size+1,4,none⟩=some (.slice none 0 0):=(hbel.cell (p:=⟨w.heap.size+1,4,none⟩) (by show w.heap.size+1<w.heap.size+1+1;omega)).trans (by simp [go_sem])
  have Q5:w1.cell? ⟨w.heap.size+1,5,none⟩=some (.slice none 0 0):=(hbel.cell (p:=⟨w.heap.size+1,5,none⟩) (by show w.heap.size+1<w.heap.size+1+1;omega)).trans (by simp [go_sem])
  have QZ:∀i,w1.frozen? ⟨w.heap.size+1,i,none⟩=false:=fun i=>(hbel.frozen (p:=⟨w.heap.size+1,i,none⟩) (by show w.heap.size+1<w.heap.size+1+1;omega)).trans (by simp [go_sem])
  have hb01:=(q9 HM).bel0
  have HSM:Hid (∀t∈S,t.length≤1000∧qt8 (qd9 t)∧qt8 (j8 8 x (qd9 t))):=j4 fun t ht=>by
   have hm:=va0.1 (show t∈qf4 ts by rw [q9 HS];exact ht)
   exact ⟨hst t hm,hb1 t hm,hb2 t hm⟩
  have HROW:=j4 (q9 HM).row
  have HB01:=j4 hb01
  have HXW1:Hid (∀W,Below w1.heap.size w1 W→RfAt N W x f):=j4 fun W hb=>((q9 HX).below hb01).below hb
  have HNB1:Hid (∀b,N b→b<w1.heap.size):=j4 fun b h=>Nat.lt_of_lt_of_le (hN b h) hb01.size
  have KXg:Hid (∀b W,Below w1.heap.size w1 b→Below b.heap.size b W→∀(i:Nat) (t:List UInt8),w1.cell? ⟨lg,i,none⟩=some (.string (BS t))→(W.cell? ⟨w.heap.size,0,none⟩=some (.string f.op)∧W.cell? ⟨w.heap.size,1,none⟩=some (.string (BS f.text))∧W.cell? ⟨w.heap.size,2,none⟩=some (.int .i64 f.cls)∧W.cell? ⟨w.heap.size,3,none⟩=some (.slice f.pa f.pn f.pc)∧W.cell? ⟨w.heap.size,4,none⟩=some (.slice f.ta f.tn f.tc)∧W.cell? ⟨w.heap.size,5,none⟩=some (.slice f.ra f.rn f.rc)∧W.cell? ⟨lg,i,none⟩=some (.string (BS t)))):=j4 fun b W h1 h2 i t hl=>by
   have hh:=j6 h1 h2
   refine ⟨?_, ?_, ?_, ?_, ?_, ?_, ?_⟩
   ·exact ((qa9 hh).1 _ _ (by omega)).trans X0
   ·exact ((qa9 hh).1 _ _ (by omega)).trans X1
   ·exact ((qa9 hh).1 _ _ (by omega)).trans X2
   ·exact ((qa9 hh).1 _ _ (by omega)).trans X3
   ·exact ((qa9 hh).1 _ _ (by omega)).trans X4
   ·exact ((qa9 hh).1 _ _ (by omega)).trans X5
   ·exact ((qa9 hh).1 _ _ hlg).trans hl
  have LFg:Hid (∀(t:List UInt8) (W:World),Calls Tryz.prog 224 #[.string ⟨#[116,101,120,116]⟩,.string (BS (qL t)),.int .i64 3,.int .i64 ((BS t).size:Int)] W fun e w'=>Below W.heap.size W w'∧∃r:RF,e=.returned (.agg #[.string r.op,.string (BS r.text),.int .i64 r.cls,.slice r.pa r.pn r.pc,.slice r.ta r.tn r.tc,.slice r.ra r.rn r.rc])∧RfAt (fun b=>N b∨W.heap.size≤b) w' (qd9 t) r):=j4 fun t W=>(qv0 N ⟨2,0,t,[]⟩ W).mono fun e w' h=>h.rf
  have QTg:Hid (∀(t:List UInt8),t.length≤1000→∀W,Calls Tryz.prog 226 #[.string (BS t)] W fun e w'=>e=.returned (.string (BS (qL t)))∧w'=W):=j4 fun t ht W=>qq6 (BS t) ht W
  have hmem0:t0∈S:=List.mem_of_getElem? ht0
  obtain ⟨QB,hQB⟩:∃q,BS (qL t0)=q:=⟨_,rfl⟩
  have LF:=j4 (q9 LFg t0)
  have QT:=j4 (q9 QTg t0 ((q9 HSM t0 hmem0).1))
  have BT:=j4 ((q9 HSM t0 hmem0).2.1)
  have KX:Hid (∀W,Below w1.heap.size w1 W→(W.cell? ⟨w.heap.size,0,none⟩=some (.string f.op)∧W.cell? ⟨w.heap.size,1,none⟩=some (.string (BS f.text))∧W.cell? ⟨w.heap.size,2,none⟩=some (.int .i64 f.cls)∧W.cell? ⟨w.heap.size,3,none⟩=some (.slice f.pa f.pn f.pc)∧W.cell? ⟨w.heap.size,4,none⟩=some (.slice f.ta f.tn f.tc)∧W.cell? ⟨w.heap.size,5,none⟩=some (.slice f.ra f.rn f.rc)∧W.cell? ⟨lg,0,none⟩=some (.string (BS t0)))):=j4 fun W hb=>q9 KXg w1 W (Below.refl _ _) hb 0 t0 hl0
  have HXW:=HXW1
  have HNB:=HNB1
  rw [hQB] at LF QT
  have hSl0:(0:Int)<(S.length:Int):=by omega
  have HT0:Hid (amK x S 1=j8 8 x (qd9 t0)):=j4 (by unfold amK;rw [Nat.sub_self,List.take_zero,List.getD_eq_getElem?_getD,ht0];rfl)
  clear hbel hb01 ht0 hmem0 hQB HM
  go_upto_region 13 with (go_at_call 226;refine (q9 QT _).mono ?_;rintro e wq ⟨rfl,hq⟩;subst wq)
  go_cut [10] (fun s10 wx=>∃ob r,s10=.pointer (some ⟨ob,0,none⟩)∧Hid (OutAt N w1 wx ob (j8 8 x (qd9 t0)) r))
  case first=>
   have hlgb:lg<w1.heap.size:=(by omega)
   have na1:¬w.heap.size=w1.heap.size:=(by omega)
   have na2:¬w1.heap.size=w.heap.size:=(by omega)
   have na3:¬lg=w1.heap.size:=(by omega)
   have na4:¬w1.heap.size=lg:=(by omega)
   have na5:w.heap.size<w1.heap.size:=(by omega)
   have na6:lg<w1.heap.size:=(by omega)
   have TWA:Hid (∀(w2:World) (g2:RF),Below w1.heap.size w1 w2→RfAt (fun b=>N b∨(w1.heap.size≤b∧b≠w1.heap.size)) w2 (qd9 t0) g2→w1.heap.size+1≤w2.heap.size→Calls Tryz.prog 227 #[.string ⟨#[61]⟩,.agg #[.string f.op,.string (BS f.text),.int .i64 f.cls,.slice f.pa f.pn f.pc,.slice f.ta f.tn f.tc,.slice f.ra f.rn f.rc],.agg #[.string g2.op,.string (BS g2.text),.int .i64 g2.cls,.slice g2.pa g2.pn g2.pc,.slice g2.ta g2.tn g2.tc,.slice g2.ra g2.rn g2.rc]] w2 fun e w'=>Below w2.heap.size w2 w'∧∃r:RF,e=.returned (.agg #[.string r.op,.string (BS r.text),.int .i64 r.cls,.slice r.pa r.pn r.pc,.slice r.ta r.tn r.tc,.slice r.ra r.rn r.rc])∧RfAt (fun b=>N b∨(w1.heap.size≤b∧b≠w1.heap.size)) w' (j8 8 x (qd9 t0)) r):=j4 fun w2 g2 h1 h2 h3=>vw5 (o:=8) (by simp [qf0]) h1 ((q9 HXW w2 h1).keep (fun _ _ _=>rfl) (Nat.le_refl _) (fun _ h _=>.inl h)) h2 (by omega) bx (q9 BT)
   have TWB:Hid (∀(w2:World) (g2:RF),Below w1.heap.size w1 w2→RfAt (fun b=>N b∨w1.heap.size≤b) w2 (qd9 t0) g2→Calls Tryz.prog 227 #[.string ⟨#[61]⟩,.agg #[.string f.op,.string (BS f.text),.int .i64 f.cls,.slice f.pa f.pn f.pc,.slice f.ta f.tn f.tc,.slice f.ra f.rn f.rc],.agg #[.string g2.op,.string (BS g2.text),.int .i64 g2.cls,.slice g2.pa g2.pn g2.pc,.slice g2.ta g2.tn g2.tc,.slice g2.ra g2.rn g2.rc]] (w2.alloc (.cells #[.string ⟨#[]⟩,.string ⟨#[]⟩,.int .i64 0,.slice none 0 0,.slice none 0 0,.slice none 0 0] 184)) fun e w'=>Below (w2.alloc (.cells #[.string ⟨#[]⟩,.string ⟨#[]⟩,.int .i64 0,.slice none 0 0,.slice none 0 0,.slice none 0 0] 184)).heap.size (w2.alloc (.cells #[.string ⟨#[]⟩,.string ⟨#[]⟩,.int .i64 0,.slice none 0 0,.slice none 0 0,.slice none 0 0] 184)) w'∧∃r:RF,e=.returned (.agg #[.string r.op,.string (BS r.text),.int .i64 r.cls,.slice r.pa r.pn r.pc,.slice r.ta r.tn r.tc,.slice r.ra r.rn r.rc])∧RfAt (fun b=>N b∨(w1.heap.size≤b∧b≠w2.heap.size)) w' (j8 8 x (qd9 t0)) r):=j4 fun w2 g2 h1 h2=>vw5 (o:=8) (by simp [qf0]) (j6 h1 ((Below.refl _ _).alloc (Nat.le_refl _) _)) ((q9 HXW _ (j6 h1 ((Below.refl _ _).alloc (Nat.le_refl _) (.cells #[.string ⟨#[]⟩,.string ⟨#[]⟩,.int .i64 0,.slice none 0 0,.slice none 0 0,.slice none 0 0] 184)))).keep (fun _ _ _=>rfl) (Nat.le_refl _) (fun _ h _=>.inl h)) (jf0 h2 _) (by simp) bx (q9 BT)
   have TWC:Hid (∀(w2:World) (g2:RF),Below w1.heap.size w1 w2→RfAt (fun b=>N b∨w1.heap.size≤b) w2 (qd9 t0) g2→Calls Tryz.prog 227 #[.string ⟨#[61]⟩,.agg #[.string f.op,.string (BS f.text),.int .i64 f.cls,.slice f.pa f.pn f.pc,.slice f.ta f.tn f.tc,.slice f.ra f.rn f.rc],.agg #[.string g2.op,.string (BS g2.text),.int .i64 g2.cls,.slice g2.pa g2.pn g2.pc,.slice g2.ta g2.tn g2.tc,.slice g2.ra g2.rn g2.rc]] w2 fun e w'=>Below w2.heap.size w2 w'∧∃r:RF,e=.returned (.agg #[.string r.op,.string (BS r.text),.int .i64 r.cls,.slice r.pa r.pn r.pc,.slice r.ta r.tn r.tc,.slice r.ra r.rn r.rc])∧RfAt (fun b=>N b∨w1.heap.size≤b) w' (j8 8 x (qd9 t0)) r):=j4 fun w2 g2 h1 h2=>tw_no (o:=8) (by simp [qf0]) h1 ((q9 HXW w2 h1).keep (fun _ _ _=>rfl) (Nat.le_refl _) (fun _ h _=>.inl h)) h2 bx (q9 BT)
   go_region_held3 (fun W=>W.cell? ⟨w.heap.size,0,none⟩=some (.string f.op)∧W.cell? ⟨w.heap.size,1,none⟩=some (.string (BS f.text))∧W.cell? ⟨w.heap.size,2,none⟩=some (.int .i64 f.cls)∧W.cell? ⟨w.heap.size,3,none⟩=some (.slice f.pa f.pn f.pc)∧W.cell? ⟨w.heap.size,4,none⟩=some (.slice f.ta f.tn f.tc)∧W.cell? ⟨w.heap.size,5,none⟩=some (.slice f.ra f.rn f.rc)∧W.cell? ⟨lg,0,none⟩=some (.string (BS t0))) (first|with_reducible assumption|go_keep) (first|(go_at_call 227;have _q:=HGA;refine (q9 TWA w2 g2 (q9 HBA) (q9 HGA) hz2).mono ?_;rintro e w3 ⟨hb3,r3,rfl,hr3⟩;have HRA:=j4 hr3;have HB3:=j4 (j6 (q9 HBA) hb3);obtain ⟨p0,p1,p2,p3,p4,p5,pz,hz3⟩:=(q9 HOV).below hb3;have hSS3:=q9 KX w3 (q9 HB3);clear hb3 hr3)|(go_at_call 227;have _q:=HGB;refine (q9 TWB w2 g2 (q9 HBB) (q9 HGB)).mono ?_;rintro e w3 ⟨hb3,r3,rfl,hr3⟩;have HRB:=j4 hr3;have HB3:=j4 (j6 (j6 (q9 HBB) ((Below.refl _ _).alloc (Nat.le_refl _) _)) hb3);obtain ⟨p0,p1,p2,p3,p4,p5,pz,hz3⟩:=(qt4 w2).below hb3;have hSS3:=q9 KX w3 (q9 HB3);clear hb3 hr3)|(go_at_call 227;have _q:=HGB;refine (q9 TWC w2 g2 (q9 HBB) (q9 HGB)).mono ?_;rintro e w3 ⟨hb3,r3,rfl,hr3⟩;have HRC:=j4 hr3;have HB3:=j4 (j6 (q9 HBB) hb3);have hz3c:=hb3.size;have nc1:¬w.heap.size=w3.heap.size:=(by omega);have nc2:¬w3.heap.size=w.heap.size:=(by omega);have nc3:¬lg=w3.heap.size:=(by omega);have nc4:¬w3.heap.size=lg:=(by omega);have nc5:w.heap.size<w3.heap.size:=(by omega);have nc6:lg<w3.heap.size:=(by omega);have hSS3:=q9 KX w3 (q9 HB3);clear hb3 hr3)|(go_at_call 224;refine (q9 LF (w1.alloc (.cells #[.string ⟨#[]⟩,.string ⟨#[]⟩,.int .i64 0,.slice none 0 0,.slice none 0 0,.slice none 0 0] 184)).drew).mono ?_;rintro e w2 ⟨hb2,g2,rfl,hg2⟩;have HBA:=j4 (j6 ((Below.refl w1.heap.size w1).alloc (Nat.le_refl _) (.cells #[.string ⟨#[]⟩,.string ⟨#[]⟩,.int .i64 0,.slice none 0 0,.slice none 0 0,.slice none 0 0] 184)).drew hb2);have HGA:Hid (RfAt (fun b=>N b∨(w1.heap.size≤b∧b≠w1.heap.size)) w2 (qd9 t0) g2):=j4 (hg2.keep (fun _ _ _=>rfl) (Nat.le_refl _) (fun b h _=>(by rcases h with h|h;exact .inl h;right;have h':(w1.alloc (.cells #[.string ⟨#[]⟩,.string ⟨#[]⟩,.int .i64 0,.slice none 0 0,.slice none 0 0,.slice none 0 0] 184)).heap.size≤b:=h;rw [World.size_alloc] at h';exact ⟨(by omega),(by omega)⟩)));have hov:=(qt4 w1).drew.below hb2;have HOV:=j4 hov;have hz2:w1.heap.size+1≤w2.heap.size:=hov.lt;clear hov;have hSS:=q9 KX w2 (q9 HBA);clear hb2 hg2)|(go_at_call 224;refine (q9 LF w1.drew).mono ?_;rintro e w2 ⟨hb2,g2,rfl,hg2⟩;have HBB:=j4 (j6 (Below.refl w1.heap.size w1).drew hb2);have HGB:Hid (RfAt (fun b=>N b∨w1.heap.size≤b) w2 (qd9 t0) g2):=j4 hg2;have hz2:w1.heap.size≤w2.heap.size:=hb2.size;have nb1:¬w.heap.size=w2.heap.size:=(by omega);have nb2:¬w2.heap.size=w.heap.size:=(by omega);have nb3:¬lg=w2.heap.size:=(by omega);have nb4:¬w2.heap.size=lg:=(by omega);have nb5:w.heap.size<w2.heap.size:=(by omega);have nb6:lg<w2.heap.size:=(by omega);have hSS:=q9 KX w2 (q9 HBB);clear hb2 hg2))
   all_goals
    go_wp2_with fail
    go_meet
    first
     | (have _q:=HRA;exact ⟨_,r3,rfl,j4 (OutAt.put (q9 HB3) (Nat.le_refl _) hz3 (q9 HNB) (fun k hk=>by match k,hk with|0,_=>exact ⟨_,p0⟩|1,_=>exact ⟨_,p1⟩|2,_=>exact ⟨_,p2⟩|3,_=>exact ⟨_,p3⟩|4,_=>exact ⟨_,p4⟩|5,_=>exact ⟨_,p5⟩) pz (q9 HRA))⟩)
     | (have _q:=HRB;exact ⟨_,r3,rfl,j4 (OutAt.put (q9 HB3) (q9 HBB).size hz3 (q9 HNB) (fun k hk=>by match k,hk with|0,_=>exact ⟨_,p0⟩|1,_=>exact ⟨_,p1⟩|2,_=>exact ⟨_,p2⟩|3,_=>exact ⟨_,p3⟩|4,_=>exact ⟨_,p4⟩|5,_=>exact ⟨_,p5⟩) pz (q9 HRB))⟩)
     | (have _q:=HRC;exact ⟨_,r3,rfl,j4 (OutAt.new (q9 HB3) (q9 HRC))⟩)
  case rest=>
   obtain ⟨ob,r,rfl,HO⟩:=hcut
   rw [←q9 HT0] at HO
   clear LF QT BT KX HT0 hl0
   go_wp2_with fail
   go_loopw [11] (fun i wr=>∃(k:Nat) (r:RF),1≤k∧k≤S.length∧i=.int .i64 k∧Hid (OutAt N w1 wr ob (amK x S k) r)) (fun i _=>S.length - (intOf i).toNat)
   case atStart=>exact ⟨1,r,Nat.le_refl _,hS0,rfl,HO⟩
   case round=>
    clear HO r
    obtain ⟨k,r,hk1,hk2,rfl,HO⟩:=hrel
    have hbr:=(q9 HO).bel
    have hzr:=hbr.size
    have hoge:=(q9 HO).ge
    have holt:=(q9 HO).lt
    by_cases hlt:k<S.length
    ·obtain ⟨t,ht⟩:∃t,S[k]?=some t:=⟨_,List.getElem?_eq_getElem hlt⟩
     have hmem:t∈S:=List.mem_of_getElem? ht
     have hlk:w1.cell? ⟨lg,k,none⟩=some (.string (BS t)):=by
      obtain ⟨lg',lcap',e,_,_,hl'⟩:=(q9 HROW).cell (k:=k) ht
      injection e with e1 _ _
      injection e1 with e1
      injection e1 with e1
      rw [e1];exact hl'
     have hlkr:wr.cell? ⟨lg,k,none⟩=some (.string (BS t)):=((qa9 hbr).1 _ _ hlg).trans hlk
     have Y0:wr.cell? ⟨w.heap.size,0,none⟩=some (.string f.op):=((qa9 hbr).1 _ _ (by omega)).trans X0
     have Y1:wr.cell? ⟨w.heap.size,1,none⟩=some (.string (BS f.text)):=((qa9 hbr).1 _ _ (by omega)).trans X1
     have Y2:wr.cell? ⟨w.heap.size,2,none⟩=some (.int .i64 f.cls):=((qa9 hbr).1 _ _ (by omega)).trans X2
     have Y3:wr.cell? ⟨w.heap.size,3,none⟩=some (.slice f.pa f.pn f.pc):=((qa9 hbr).1 _ _ (by omega)).trans X3
     have Y4:wr.cell? ⟨w.heap.size,4,none⟩=some (.slice f.ta f.tn f.tc):=((qa9 hbr).1 _ _ (by omega)).trans X4
     have Y5:wr.cell? ⟨w.heap.size,5,none⟩=some (.slice f.ra f.rn f.rc):=((qa9 hbr).1 _ _ (by omega)).trans X5
     have HST:Hid (amK x S (k+1)=j8 7 (amK x S k) (j8 8 x (qd9 t))):=j4 (amK_step hk1 ht)
     obtain ⟨QB,hQB⟩:∃q,BS (qL t)=q:=⟨_,rfl⟩
     have LF:=j4 (q9 LFg t)
     have QT:=j4 (q9 QTg t ((q9 HSM t hmem).1))
     have BT:=j4 ((q9 HSM t hmem).2.1)
     have BP:=j4 ((q9 HSM t hmem).2.2)
     have BA:=j4 (hb3 k hk1 (by rw [q9 HS];exact hk2))
     rw [q9 HS] at BA
     have KX:Hid (∀W,Below wr.heap.size wr W→(W.cell? ⟨w.heap.size,0,none⟩=some (.string f.op)∧W.cell? ⟨w.heap.size,1,none⟩=some (.string (BS f.text))∧W.cell? ⟨w.heap.size,2,none⟩=some (.int .i64 f.cls)∧W.cell? ⟨w.heap.size,3,none⟩=some (.slice f.pa f.pn f.pc)∧W.cell? ⟨w.heap.size,4,none⟩=some (.slice f.ta f.tn f.tc)∧W.cell? ⟨w.heap.size,5,none⟩=some (.slice f.ra f.rn f.rc)∧W.cell? ⟨lg,k,none⟩=some (.string (BS t)))):=j4 fun W hb=>q9 KXg wr W hbr hb k t hlk
     have HXW:Hid (∀W,Below wr.heap.size wr W→RfAt N W x f):=j4 fun W hb=>q9 HXW1 W (j6 hbr hb)
     have HNB:Hid (∀b,N b→b<wr.heap.size):=j4 fun b h=>Nat.lt_of_lt_of_le (q9 HNB1 b h) hzr
     rw [hQB] at LF QT
     have hi0:(0:Int)≤(k:Int):=by omega
     have hi1:(k:Int)<(S.length:Int):=by omega
     clear ht hmem hQB hlk
     go_upto_region 18 with (go_at_call 226;refine (q9 QT _).mono ?_;rintro e wq ⟨rfl,hq⟩;subst wq)
     go_cut [12] (fun s12 wx=>∃eb re,s12=.pointer (some ⟨eb,0,none⟩)∧Hid (OutAt N wr wx eb (j8 8 x (qd9 t)) re))
     case first=>
      have hlgb:lg<wr.heap.size:=(by omega)
      have na1:¬w.heap.size=wr.heap.size:=(by omega)
      have na2:¬wr.heap.size=w.heap.size:=(by omega)
      have na3:¬lg=wr.heap.size:=(by omega)
      have na4:¬wr.heap.size=lg:=(by omega)
      have na5:w.heap.size<wr.heap.size:=(by omega)
      have na6:lg<wr.heap.size:=(by omega)
      have TWA:Hid (∀(w2:World) (g2:RF),Below wr.heap.size wr w2→RfAt (fun b=>N b∨(wr.heap.size≤b∧b≠wr.heap.size)) w2 (qd9 t) g2→wr.heap.size+1≤w2.heap.size→Calls Tryz.prog 227 #[.string ⟨#[61]⟩,.agg #[.string f.op,.string (BS f.text),.int .i64 f.cls,.slice f.pa f.pn f.pc,.slice f.ta f.tn f.tc,.slice f.ra f.rn f.rc],.agg #[.string g2.op,.string (BS g2.text),.int .i64 g2.cls,.slice g2.pa g2.pn g2.pc,.slice g2.ta g2.tn g2.tc,.slice g2.ra g2.rn g2.rc]] w2 fun e w'=>Below w2.heap.size w2 w'∧∃r:RF,e=.returned (.agg #[.string r.op,.string (BS r.text),.int .i64 r.cls,.slice r.pa r.pn r.pc,.slice r.ta r.tn r.tc,.slice r.ra r.rn r.rc])∧RfAt (fun b=>N b∨(wr.heap.size≤b∧b≠wr.heap.size)) w' (j8 8 x (qd9 t)) r):=j4 fun w2 g2 h1 h2 h3=>vw5 (o:=8) (by simp [qf0]) h1 ((q9 HXW w2 h1).keep (fun _ _ _=>rfl) (Nat.le_refl _) (fun _ h _=>.inl h)) h2 (by omega) bx (q9 BT)
      have TWB:Hid (∀(w2:World) (g2:RF),Below wr.heap.size wr w2→RfAt (fun b=>N b∨wr.heap.size≤b) w2 (qd9 t) g2→Calls Tryz.prog 227 #[.string ⟨#[61]⟩,.agg #[.string f.op,.string (BS f.text),.int .i64 f.cls,.slice f.pa f.pn f.pc,.slice f.ta f.tn f.tc,.slice f.ra f.rn f.rc],.agg #[.string g2.op,.string (BS g2.text),.int .i64 g2.cls,.slice g2.pa g2.pn g2.pc,.slice g2.ta g2.tn g2.tc,.slice g2.ra g2.rn g2.rc]] (w2.alloc (.cells #[.string ⟨#[]⟩,.string ⟨#[]⟩,.int .i64 0,.slice none 0 0,.slice none 0 0,.slice none 0 0] 184)) fun e w'=>Below (w2.alloc (.cells #[.string ⟨#[]⟩,.string ⟨#[]⟩,.int .i64 0,.slice none 0 0,.slice none 0 0,.slice none 0 0] 184)).heap.size (w2.alloc (.cells #[.string ⟨#[]⟩,.string ⟨#[]⟩,.int .i64 0,.slice none 0 0,.slice none 0 0,.slice none 0 0] 184)) w'∧∃r:RF,e=.returned (.agg #[.string r.op,.string (BS r.text),.int .i64 r.cls,.slice r.pa r.pn r.pc,.slice r.ta r.tn r.tc,.slice r.ra r.rn r.rc])∧RfAt (fun b=>N b∨(wr.heap.size≤b∧b≠w2.heap.size)) w' (j8 8 x (qd9 t)) r):=j4 fun w2 g2 h1 h2=>vw5 (o:=8) (by simp [qf0]) (j6 h1 ((Below.refl _ _).alloc (Nat.le_refl _) _)) ((q9 HXW _ (j6 h1 ((Below.refl _ _).alloc (Nat.le_refl _) (.cells #[.string ⟨#[]⟩,.string ⟨#[]⟩,.int .i64 0,.slice none 0 0,.slice none 0 0,.slice none 0 0] 184)))).keep (fun _ _ _=>rfl) (Nat.le_refl _) (fun _ h _=>.inl h)) (jf0 h2 _) (by simp) bx (q9 BT)
      have TWC:Hid (∀(w2:World) (g2:RF),Below wr.heap.size wr w2→RfAt (fun b=>N b∨wr.heap.size≤b) w2 (qd9 t) g2→Calls Tryz.prog 227 #[.string ⟨#[61]⟩,.agg #[.string f.op,.string (BS f.text),.int .i64 f.cls,.slice f.pa f.pn f.pc,.slice f.ta f.tn f.tc,.slice f.ra f.rn f.rc],.agg #[.string g2.op,.string (BS g2.text),.int .i64 g2.cls,.slice g2.pa g2.pn g2.pc,.slice g2.ta g2.tn g2.tc,.slice g2.ra g2.rn g2.rc]] w2 fun e w'=>Below w2.heap.size w2 w'∧∃r:RF,e=.returned (.agg #[.string r.op,.string (BS r.text),.int .i64 r.cls,.slice r.pa r.pn r.pc,.slice r.ta r.tn r.tc,.slice r.ra r.rn r.rc])∧RfAt (fun b=>N b∨wr.heap.size≤b) w' (j8 8 x (qd9 t)) r):=j4 fun w2 g2 h1 h2=>tw_no (o:=8) (by simp [qf0]) h1 ((q9 HXW w2 h1).keep (fun _ _ _=>rfl) (Nat.le_refl _) (fun _ h _=>.inl h)) h2 bx (q9 BT)
      go_region_held3 (fun W=>W.cell? ⟨w.heap.size,0,none⟩=some (.string f.op)∧W.cell? ⟨w.heap.size,1,none⟩=some (.string (BS f.text))∧W.cell? ⟨w.heap.size,2,none⟩=some (.int .i64 f.cls)∧W.cell? ⟨w.heap.size,3,none⟩=some (.slice f.pa f.pn f.pc)∧W.cell? ⟨w.heap.size,4,none⟩=some (.slice f.ta f.tn f.tc)∧W.cell? ⟨w.heap.size,5,none⟩=some (.slice f.ra f.rn f.rc)∧W.cell? ⟨lg,k,none⟩=some (.string (BS t))) (first|with_reducible assumption|go_keep) (first|(go_at_call 227;have _q:=HGA;refine (q9 TWA w2 g2 (q9 HBA) (q9 HGA) hz2).mono ?_;rintro e w3 ⟨hb3,r3,rfl,hr3⟩;have HRA:=j4 hr3;have HB3:=j4 (j6 (q9 HBA) hb3);obtain ⟨p0,p1,p2,p3,p4,p5,pz,hz3⟩:=(q9 HOV).below hb3;have hSS3:=q9 KX w3 (q9 HB3);clear hb3 hr3)|(go_at_call 227;have _q:=HGB;refine (q9 TWB w2 g2 (q9 HBB) (q9 HGB)).mono ?_;rintro e w3 ⟨hb3,r3,rfl,hr3⟩;have HRB:=j4 hr3;have HB3:=j4 (j6 (j6 (q9 HBB) ((Below.refl _ _).alloc (Nat.le_refl _) _)) hb3);obtain ⟨p0,p1,p2,p3,p4,p5,pz,hz3⟩:=(qt4 w2).below hb3;have hSS3:=q9 KX w3 (q9 HB3);clear hb3 hr3)|(go_at_call 227;have _q:=HGB;refine (q9 TWC w2 g2 (q9 HBB) (q9 HGB)).mono ?_;rintro e w3 ⟨hb3,r3,rfl,hr3⟩;have HRC:=j4 hr3;have HB3:=j4 (j6 (q9 HBB) hb3);have hz3c:=hb3.size;have nc1:¬w.heap.size=w3.heap.size:=(by omega);have nc2:¬w3.heap.size=w.heap.size:=(by omega);have nc3:¬lg=w3.heap.size:=(by omega);have nc4:¬w3.heap.size=lg:=(by omega);have nc5:w.heap.size<w3.heap.size:=(by omega);have nc6:lg<w3.heap.size:=(by omega);have hSS3:=q9 KX w3 (q9 HB3);clear hb3 hr3)|(go_at_call 224;refine (q9 LF (wr.alloc (.cells #[.string ⟨#[]⟩,.string ⟨#[]⟩,.int .i64 0,.slice none 0 0,.slice none 0 0,.slice none 0 0] 184)).drew).mono ?_;rintro e w2 ⟨hb2,g2,rfl,hg2⟩;have HBA:=j4 (j6 ((Below.refl wr.heap.size wr).alloc (Nat.le_refl _) (.cells #[.string ⟨#[]⟩,.string ⟨#[]⟩,.int .i64 0,.slice none 0 0,.slice none 0 0,.slice none 0 0] 184)).drew hb2);have HGA:Hid (RfAt (fun b=>N b∨(wr.heap.size≤b∧b≠wr.heap.size)) w2 (qd9 t) g2):=j4 (hg2.keep (fun _ _ _=>rfl) (Nat.le_refl _) (fun b h _=>(by rcases h with h|h;exact .inl h;right;have h':(wr.alloc (.cells #[.string ⟨#[]⟩,.string ⟨#[]⟩,.int .i64 0,.slice none 0 0,.slice none 0 0,.slice none 0 0] 184)).heap.size≤b:=h;rw [World.size_alloc] at h';exact ⟨(by omega),(by omega)⟩)));have hov:=(qt4 wr).drew.below hb2;have HOV:=j4 hov;have hz2:wr.heap.size+1≤w2.heap.size:=hov.lt;clear hov;have hSS:=q9 KX w2 (q9 HBA);clear hb2 hg2)|(go_at_call 224;refine (q9 LF wr.drew).mono ?_;rintro e w2 ⟨hb2,g2,rfl,hg2⟩;have HBB:=j4 (j6 (Below.refl wr.heap.size wr).drew hb2);have HGB:Hid (RfAt (fun b=>N b∨wr.heap.size≤b) w2 (qd9 t) g2):=j4 hg2;have hz2:wr.heap.size≤w2.heap.size:=hb2.size;have nb1:¬w.heap.size=w2.heap.size:=(by omega);have nb2:¬w2.heap.size=w.heap.size:=(by omega);have nb3:¬lg=w2.heap.size:=(by omega);have nb4:¬w2.heap.size=lg:=(by omega);have nb5:w.heap.size<w2.heap.size:=(by omega);have nb6:lg<w2.heap.size:=(by omega);have hSS:=q9 KX w2 (q9 HBB);clear hb2 hg2))
      all_goals
       go_wp2_with fail
       go_meet
       first
        | (have _q:=HRA;exact ⟨_,r3,rfl,j4 (OutAt.put (q9 HB3) (Nat.le_refl _) hz3 (q9 HNB) (fun k hk=>by match k,hk with|0,_=>exact ⟨_,p0⟩|1,_=>exact ⟨_,p1⟩|2,_=>exact ⟨_,p2⟩|3,_=>exact ⟨_,p3⟩|4,_=>exact ⟨_,p4⟩|5,_=>exact ⟨_,p5⟩) pz (q9 HRA))⟩)
        | (have _q:=HRB;exact ⟨_,r3,rfl,j4 (OutAt.put (q9 HB3) (q9 HBB).size hz3 (q9 HNB) (fun k hk=>by match k,hk with|0,_=>exact ⟨_,p0⟩|1,_=>exact ⟨_,p1⟩|2,_=>exact ⟨_,p2⟩|3,_=>exact ⟨_,p3⟩|4,_=>exact ⟨_,p4⟩|5,_=>exact ⟨_,p5⟩) pz (q9 HRB))⟩)
        | (have _q:=HRC;exact ⟨_,r3,rfl,j4 (OutAt.new (q9 HB3) (q9 HRC))⟩)
     case rest=>
      obtain ⟨eb,re,rfl,HE⟩:=hcut
      have HO2:=j4 ((q9 HO).below (q9 HE).bel)
      have hoc:=(q9 HO2).cells
      have hec:=(q9 HE).cells
      have holt2:=(q9 HO2).lt
      have helt:=(q9 HE).lt
      have u0:wc.cell? ⟨ob,0,none⟩=some (.string r.op):=hoc 0 (by omega)
      have u1:wc.cell? ⟨ob,1,none⟩=some (.string (BS r.text)):=hoc 1 (by omega)
      have u2:wc.cell? ⟨ob,2,none⟩=some (.int .i64 r.cls):=hoc 2 (by omega)
      have u3:wc.cell? ⟨ob,3,none⟩=some (.slice r.pa r.pn r.pc):=hoc 3 (by omega)
      have u4:wc.cell? ⟨ob,4,none⟩=some (.slice r.ta r.tn r.tc):=hoc 4 (by omega)
      have u5:wc.cell? ⟨ob,5,none⟩=some (.slice r.ra r.rn r.rc):=hoc 5 (by omega)
      have v0:wc.cell? ⟨eb,0,none⟩=some (.string re.op):=hec 0 (by omega)
      have v1:wc.cell? ⟨eb,1,none⟩=some (.string (BS re.text)):=hec 1 (by omega)
      have v2:wc.cell? ⟨eb,2,none⟩=some (.int .i64 re.cls):=hec 2 (by omega)
      have v3:wc.cell? ⟨eb,3,none⟩=some (.slice re.pa re.pn re.pc):=hec 3 (by omega)
      have v4:wc.cell? ⟨eb,4,none⟩=some (.slice re.ta re.tn re.tc):=hec 4 (by omega)
      have v5:wc.cell? ⟨eb,5,none⟩=some (.slice re.ra re.rn re.rc):=hec 5 (by omega)
      have hzc:=(q9 HE).bel.size
      have TWO:Hid (Calls Tryz.prog 227 #[.string ⟨#[79,82]⟩,.agg #[.string r.op,.string (BS r.text),.int .i64 r.cls,.slice r.pa r.pn r.pc,.slice r.ta r.tn r.tc,.slice r.ra r.rn r.rc],.agg #[.string re.op,.string (BS re.text),.int .i64 re.cls,.slice re.pa re.pn re.pc,.slice re.ta re.tn re.tc,.slice re.ra re.rn re.rc]] wc fun e w'=>Below wc.heap.size wc w'∧∃s:RF,e=.returned (.agg #[.string s.op,.string (BS s.text),.int .i64 s.cls,.slice s.pa s.pn s.pc,.slice s.ta s.tn s.tc,.slice s.ra s.rn s.rc])∧RfAt (fun b=>N b∨(w1.heap.size≤b∧b≠ob)) w' (j8 7 (amK x S k) (j8 8 x (qd9 t))) s):=j4 (vw5 (o:=7) (by simp [qf0]) (q9 HO2).bel (q9 HO2).rf ((q9 HE).rf.keep (fun _ _ _=>rfl) (Nat.le_refl _) (fun b h _=>by
       rcases h with h|h
       ·exact .inl h
       ·exact .inr ⟨by omega,by omega⟩)) holt2 (q9 BA) (q9 BP))
      clear hoc hec
      go_wp2_with (go_at_call 227;refine (q9 TWO).mono ?_;rintro e w5 ⟨hb5,s,rfl,hs5⟩;have HO5:=j4 ((q9 HO2).below hb5);have hc5:=(q9 HO5).cells;have x0:w5.cell? ⟨ob,0,none⟩=some (.string r.op):=hc5 0 (by omega);have x1:w5.cell? ⟨ob,1,none⟩=some (.string (BS r.text)):=hc5 1 (by omega);have x2:w5.cell? ⟨ob,2,none⟩=some (.int .i64 r.cls):=hc5 2 (by omega);have x3:w5.cell? ⟨ob,3,none⟩=some (.slice r.pa r.pn r.pc):=hc5 3 (by omega);have x4:w5.cell? ⟨ob,4,none⟩=some (.slice r.ta r.tn r.tc):=hc5 4 (by omega);have x5:w5.cell? ⟨ob,5,none⟩=some (.slice r.ra r.rn r.rc):=hc5 5 (by omega);have xz:=(q9 HO5).fz;have xl:=(q9 HO5).lt;have HS5:=j4 hs5;clear hb5 hc5 hs5)
      go_roundw
      case rel=>exact ⟨k+1,s,by omega,by omega,by go_num,j4 (by rw [q9 HST];exact OutAt.put (q9 HO5).bel hoge xl (q9 HNB1) (fun k hk=>by match k,hk with|0,_=>exact ⟨_,x0⟩|1,_=>exact ⟨_,x1⟩|2,_=>exact ⟨_,x2⟩|3,_=>exact ⟨_,x3⟩|4,_=>exact ⟨_,x4⟩|5,_=>exact ⟨_,x5⟩) xz (q9 HS5))⟩
      case measure=>simp [intOf];omega
    ·have hke:k=S.length:=by omega
     have hnk:¬(k:Int)<(S.length:Int):=by omega
     have hAll:amK x S k=qk7 x ts:=by rw [hke,←q9 HS];exact amK_all (by rw [q9 HS];exact hSne)
     rw [hAll] at HO
     have hoc:=(q9 HO).cells
     have u0:wr.cell? ⟨ob,0,none⟩=some (.string r.op):=hoc 0 (by omega)
     have u1:wr.cell? ⟨ob,1,none⟩=some (.string (BS r.text)):=hoc 1 (by omega)
     have u2:wr.cell? ⟨ob,2,none⟩=some (.int .i64 r.cls):=hoc 2 (by omega)
     have u3:wr.cell? ⟨ob,3,none⟩=some (.slice r.pa r.pn r.pc):=hoc 3 (by omega)
     have u4:wr.cell? ⟨ob,4,none⟩=some (.slice r.ta r.tn r.tc):=hoc 4 (by omega)
     have u5:wr.cell? ⟨ob,5,none⟩=some (.slice r.ra r.rn r.rc):=hoc 5 (by omega)
     have q0:wr.cell? ⟨w.heap.size+1,0,none⟩=some (.string ⟨#[]⟩):=((qa9 hbr).1 _ _ (by omega)).trans Q0
     have q1:wr.cell? ⟨w.heap.size+1,1,none⟩=some (.string ⟨#[]⟩):=((qa9 hbr).1 _ _ (by omega)).trans Q1
     have q2:wr.cell? ⟨w.heap.size+1,2,none⟩=some (.int .i64 0):=((qa9 hbr).1 _ _ (by omega)).trans Q2
     have q3:wr.cell? ⟨w.heap.size+1,3,none⟩=some (.slice none 0 0):=((qa9 hbr).1 _ _ (by omega)).trans Q3
     have q4:wr.cell? ⟨w.heap.size+1,4,none⟩=some (.slice none 0 0):=((qa9 hbr).1 _ _ (by omega)).trans Q4
     have q5:wr.cell? ⟨w.heap.size+1,5,none⟩=some (.slice none 0 0):=((qa9 hbr).1 _ _ (by omega)).trans Q5
     have qz:∀i,wr.frozen? ⟨w.heap.size+1,i,none⟩=false:=fun i=>((qa9 hbr).2 _ i (by omega)).trans (QZ i)
     have ql:w.heap.size+1<wr.heap.size:=by omega
     have nq:¬ob=w.heap.size+1:=by omega
     have HBE:=j4 (j6 (q9 HB01) hbr)
     clear hke hAll hoc
     go_wp2_with fail
     refine bodyPost_ret (by simp [results,Tryz.results228,go_sem,q0,q1,q2,q3,q4,q5]<;>rfl) rfl ?_
     have hs:=qj0 wr (w.heap.size+1) (.string r.op) (.string (BS r.text)) (.int .i64 r.cls) (.slice r.pa r.pn r.pc) (.slice r.ta r.tn r.tc) (.slice r.ra r.rn r.rc)
     exact ⟨hs.bel _ _ (by omega) (q9 HBE),r,rfl,hs.rf (q9 HO).rf (by rintro (h|h);have:=q9 HNB1 _ h;have:=hN _ h;omega;have:=h.1;omega) (fun b h _=>by rcases h with h|h;exact .inl h;exact .inr (by have:=h.1;omega))⟩
end
section
structure CnAt (w W:World) (x0 x1 x2 x3 x4 x5 x6 x7 x8:Value):Prop where
 n0:W.cell? ⟨w.heap.size,0,none⟩=some x0
 n1:W.cell? ⟨w.heap.size,1,none⟩=some x1
 n2:W.cell? ⟨w.heap.size,2,none⟩=some x2
 n3:W.cell? ⟨w.heap.size,3,none⟩=some x3
 n4:W.cell? ⟨w.heap.size,4,none⟩=some x4
 n5:W.cell? ⟨w.heap.size,5,none⟩=some x5
 n6:W.cell? ⟨w.heap.size,6,none⟩=some x6
 n7:W.cell? ⟨w.heap.size,7,none⟩=some x7
 n8:W.cell? ⟨w.heap.size,8,none⟩=some x8
 r0:W.cell? ⟨w.heap.size+1,0,none⟩=some (.string ⟨#[]⟩)
 r1:W.cell? ⟨w.heap.size+1,1,none⟩=some (.string ⟨#[]⟩)
 r2:W.cell? ⟨w.heap.size+1,2,none⟩=some (.int .i64 0)
 r3:W.cell? ⟨w.heap.size+1,3,none⟩=some (.slice none 0 0)
 r4:W.cell? ⟨w.heap.size+1,4,none⟩=some (.slice none 0 0)
 r5:W.cell? ⟨w.heap.size+1,5,none⟩=some (.slice none 0 0)
 rz:∀i,W.frozen? ⟨w.heap.size+1,i,none⟩=false
 rl:w.heap.size+1<W.heap.size
 a0:¬w.heap.size=W.heap.size
 a1:¬w.heap.size+1=W.heap.size
 a2:¬W.heap.size=w.heap.size
 a3:¬W.heap.size=w.heap.size+1
section
variable {w W W':World} {x0 x1 x2 x3 x4 x5 x6 x7 x8:Value}
theorem CnAt.below (h:CnAt w W x0 x1 x2 x3 x4 x5 x6 x7 x8) (hb:Below W.heap.size W W'):CnAt w W' x0 x1 x2 x3 x4 x5 x6 x7 x8:=by
 obtain ⟨hc,hf⟩:=qa9 hb
 have hl:=h.rl
 have hz:=hb.size
 have hn:w.heap.size<W.heap.size:=by omega
 exact ⟨(hc _ _ hn).trans h.n0,(hc _ _ hn).trans h.n1,(hc _ _ hn).trans h.n2,(hc _ _ hn).trans h.n3,(hc _ _ hn).trans h.n4,(hc _ _ hn).trans h.n5,(hc _ _ hn).trans h.n6,(hc _ _ hn).trans h.n7,(hc _ _ hn).trans h.n8,(hc _ _ hl).trans h.r0,(hc _ _ hl).trans h.r1,(hc _ _ hl).trans h.r2,(hc _ _ hl).trans h.r3,(hc _ _ hl).trans h.r4,(hc _ _ hl).trans h.r5,fun i=>(hf _ i hl).trans (h.rz i),by omega,by omega,by omega,by omega,by omega⟩
theorem CnAt.alloc (h:CnAt w W x0 x1 x2 x3 x4 x5 x6 x7 x8) (o:Obj):CnAt w (W.alloc o) x0 x1 x2 x3 x4 x5 x6 x7 x8:=h.below ((Below.refl _ _).alloc (Nat.le_refl _) o)
theorem CnAt.drew (h:CnAt w W x0 x1 x2 x3 x4 x5 x6 x7 x8):CnAt w W.drew x0 x1 x2 x3 x4 x5 x6 x7 x8:=⟨h.n0,h.n1,h.n2,h.n3,h.n4,h.n5,h.n6,h.n7,h.n8,h.r0,h.r1,h.r2,h.r3,h.r4,h.r5,h.rz,h.rl,h.a0,h.a1,h.a2,h.a3⟩
theorem qm5:CnAt w ((w.alloc (.cells #[x0,x1,x2,x3,x4,x5,x6,x7,x8] 241)).alloc (.cells #[.string ⟨#[]⟩,.string ⟨#[]⟩,.int .i64 0,.slice none 0 0,.slice none 0 0,.slice none 0 0] 184)) x0 x1 x2 x3 x4 x5 x6 x7 x8:=by
 refine ⟨?_, ?_, ?_, ?_, ?_, ?_, ?_, ?_, ?_, ?_, ?_, ?_, ?_, ?_, ?_,fun i=>?_, ?_, ?_, ?_, ?_, ?_⟩<;>simp [go_sem]<;>omega
end
def qg9 (w:World) (PZ:RF→World→Prop):Prop:=∀W,Below w.heap.size w W→w.heap.size+1+1≤W.heap.size→Calls Tryz.prog 224 #[.string ⟨#[110,117,109,98,101,114]⟩,.string ⟨#[48]⟩,.int .i64 2,.int .i64 0] W fun e w'=>Below W.heap.size W w'∧∃z:RF,e=.returned z.v∧PZ z w'
def qj3 (w:World) (PZ P:RF→World→Prop) (fn:Nat) (args:RF→Array Value):Prop:=∀wz z W,Below w.heap.size w wz→w.heap.size+1<wz.heap.size→PZ z wz→Below wz.heap.size wz W→Calls Tryz.prog fn (args z) W fun e w'=>Below W.heap.size W w'∧∃r:RF,e=.returned r.v∧P r w'
def qi7 (w:World) (P:RF→World→Prop) (Q:Ending→World→Prop):Prop:=∀r w1 w',Below w.heap.size w w1→P r w1→SixAt (w.heap.size+1) w1 w'→Q (.returned r.v) w'
theorem jb8 {W:World} {b:Nat} {g:RF} (hh:∀k,k<6→W.cell? ⟨b,k,none⟩=(qa3 g)[k]?):W.cell? ⟨b,0,none⟩=some (.string g.op)∧W.cell? ⟨b,1,none⟩=some (.string (BS g.text))∧W.cell? ⟨b,2,none⟩=some (.int .i64 g.cls)∧W.cell? ⟨b,3,none⟩=some (.slice g.pa g.pn g.pc)∧W.cell? ⟨b,4,none⟩=some (.slice g.ta g.tn g.tc)∧W.cell? ⟨b,5,none⟩=some (.slice g.ra g.rn g.rc):=⟨hh 0 (by omega),hh 1 (by omega),hh 2 (by omega),hh 3 (by omega),hh 4 (by omega),hh 5 (by omega)⟩
theorem rowC2 {W:World} {b:Nat} {g h:RF} (hh:∀k,k<12→W.cell? ⟨b,k,none⟩=(qa3 g++qa3 h)[k]?):W.cell? ⟨b,0,none⟩=some (.string g.op)∧W.cell? ⟨b,1,none⟩=some (.string (BS g.text))∧W.cell? ⟨b,2,none⟩=some (.int .i64 g.cls)∧W.cell? ⟨b,3,none⟩=some (.slice g.pa g.pn g.pc)∧W.cell? ⟨b,4,none⟩=some (.slice g.ta g.tn g.tc)∧W.cell? ⟨b,5,none⟩=some (.slice g.ra g.rn g.rc)∧W.cell? ⟨b,6,none⟩=some (.string h.op)∧W.cell? ⟨b,7,none⟩=some (.string (BS h.text))∧W.cell? ⟨b,8,none⟩=some (.int .i64 h.cls)∧W.cell? ⟨b,9,none⟩=some (.slice h.pa h.pn h.pc)∧W.cell? ⟨b,10,none⟩=some (.slice h.ta h.tn h.tc)∧W.cell? ⟨b,11,none⟩=some (.slice h.ra h.rn h.rc):=⟨hh 0 (by omega),hh 1 (by omega),hh 2 (by omega),hh 3 (by omega),hh 4 (by omega),hh 5 (by omega),hh 6 (by omega),hh 7 (by omega),hh 8 (by omega),hh 9 (by omega),hh 10 (by omega),hh 11 (by omega)⟩
theorem rowC3 {W:World} {b:Nat} {g h j:RF} (hh:∀k,k<18→W.cell? ⟨b,k,none⟩=(qa3 g++qa3 h++qa3 j)[k]?):W.cell? ⟨b,0,none⟩=some (.string g.op)∧W.cell? ⟨b,1,none⟩=some (.string (BS g.text))∧W.cell? ⟨b,2,none⟩=some (.int .i64 g.cls)∧W.cell? ⟨b,3,none⟩=some (.slice g.pa g.pn g.pc)∧W.cell? ⟨b,4,none⟩=some (.slice g.ta g.tn g.tc)∧W.cell? ⟨b,5,none⟩=some (.slice g.ra g.rn g.rc)∧W.cell? ⟨b,6,none⟩=some (.string h.op)∧W.cell? ⟨b,7,none⟩=some (.string (BS h.text))∧W.cell? ⟨b,8,none⟩=some (.int .i64 h.cls)∧W.cell? ⟨b,9,none⟩=some (.slice h.pa h.pn h.pc)∧W.cell? ⟨b,10,none⟩=some (.slice h.ta h.tn h.tc)∧W.cell? ⟨b,11,none⟩=some (.slice h.ra h.rn h.rc)∧W.cell? ⟨b,12,none⟩=some (.string j.op)∧W.cell? ⟨b,13,none⟩=some (.string (BS j.text))∧W.cell? ⟨b,14,none⟩=some (.int .i64 j.cls)∧W.cell? ⟨b,15,none⟩=some (.slice j.pa j.pn j.pc)∧W.cell? ⟨b,16,none⟩=some (.slice j.ta j.tn j.tc)∧W.cell? ⟨b,17,none⟩=some (.slice j.ra j.rn j.rc):=⟨hh 0 (by omega),hh 1 (by omega),hh 2 (by omega),hh 3 (by omega),hh 4 (by omega),hh 5 (by omega),hh 6 (by omega),hh 7 (by omega),hh 8 (by omega),hh 9 (by omega),hh 10 (by omega),hh 11 (by omega),hh 12 (by omega),hh 13 (by omega),hh 14 (by omega),hh 15 (by omega),hh 16 (by omega),hh 17 (by omega)⟩
theorem vh0 {w:World} {a N c:Int} {iv lv inv:Value} {S E:ByteArray} {neg:Bool} {O:ByteArray} (ho:O=⟨#[84,82,85,69]⟩∨O=⟨#[70,65,76,83,69]⟩)
  {PZ P:RF→World→Prop} (HZ:qg9 w PZ) (H1:qj3 w PZ P 224 fun _=>#[.string O,.string O,.int .i64 1,.int .i64 0])
  {Q:Ending→World→Prop} (HQ:qi7 w P Q):Calls Tryz.prog 178 #[.agg #[.string O,.int .i64 a,iv,.string S,.string E,lv,.int .i64 N,.bool neg,.int .i64 c],inv] w Q:=by
 have DZ:=j4 HZ
 have D1:=j4 H1
 have HQ':=j4 HQ
 simp only [qg9,qj3,qi7,RF.v] at DZ D1 HQ'
 have hW2:Hid (Below w.heap.size w ((w.alloc (.cells #[.string O,.int .i64 a,iv,.string S,.string E,lv,.int .i64 N,.bool neg,.int .i64 c] 241)).alloc (.cells #[.string ⟨#[]⟩,.string ⟨#[]⟩,.int .i64 0,.slice none 0 0,.slice none 0 0,.slice none 0 0] 184))):=j4 (((Below.refl _ _).alloc (Nat.le_refl _) _).alloc (by simp) _)
 clear HZ H1 HQ
 rcases ho with rfl|rfl
 all_goals go_enter Tryz.func178,Tryz.ntmps178
 all_goals go_wp2_with (first|(go_at_call 224;refine (q9 D1 _ _ _ (q9 HBZ) rl (q9 HPZ) (q9 HBV)).mono ?_;rintro e w1 ⟨hb1,r,rfl,hp⟩;have HB1:=j4 (j6 (j6 (q9 HBZ) (q9 HBV)) hb1);obtain ⟨-,-,-,-,-,-,-,-,-,q0,q1,q2,q3,q4,q5,qz,ql,-,-,-,-⟩:=(q9 HNV).below hb1;have HPP:=j4 hp;clear hb1 hp)|(go_at_call 224;refine (q9 DZ _ (q9 hW2) (by simp)).mono ?_;rintro e wz ⟨hbz,z,rfl,hpz⟩;have HBZ:=j4 (j6 (q9 hW2) hbz);have hnz:=qm5.below hbz;have HNV:=j4 (hnz.alloc (.cells #[.string z.op,.string (BS z.text),.int .i64 z.cls,.slice z.pa z.pn z.pc,.slice z.ta z.tn z.tc,.slice z.ra z.rn z.rc] 184));have HBV:=j4 ((Below.refl wz.heap.size wz).alloc (Nat.le_refl _) (.cells #[.string z.op,.string (BS z.text),.int .i64 z.cls,.slice z.pa z.pn z.pc,.slice z.ta z.tn z.tc,.slice z.ra z.rn z.rc] 184));have HPZ:=j4 hpz;obtain ⟨n0,-,-,-,-,-,-,-,-,r0,r1,r2,r3,r4,r5,rz,rl,nz0,nz1,nz2,nz3⟩:=hnz;obtain ⟨m0,-,-,-,-,-,-,-,-,s0,s1,s2,s3,s4,s5,sz,sl,-,-,-,-⟩:=q9 HNV;clear hbz hpz))
 all_goals refine bodyPost_ret (by simp [results,Tryz.results178,go_sem,q0,q1,q2,q3,q4,q5]<;>rfl) rfl ?_
 all_goals exact q9 HQ' r w1 _ (q9 HB1) (q9 HPP) (qj0 _ _ _ _ _ _ _ _)
theorem jj6 {w:World} {a N c:Int} {iv lv inv:Value} {S E:ByteArray} {neg:Bool}
  {PZ P:RF→World→Prop} (HZ:qg9 w PZ) (H1:qj3 w PZ P 224 fun _=>#[.string ⟨#[110,97,109,101]⟩,.string S,.int .i64 0,.int .i64 (S.size:Nat)])
  {Q:Ending→World→Prop} (HQ:qi7 w P Q):Calls Tryz.prog 178 #[.agg #[.string ⟨#[110,97,109,101]⟩,.int .i64 a,iv,.string S,.string E,lv,.int .i64 N,.bool neg,.int .i64 c],inv] w Q:=by
 have DZ:=j4 HZ
 have D1:=j4 H1
 have HQ':=j4 HQ
 simp only [qg9,qj3,qi7,RF.v] at DZ D1 HQ'
 have hW2:Hid (Below w.heap.size w ((w.alloc (.cells #[.string ⟨#[110,97,109,101]⟩,.int .i64 a,iv,.string S,.string E,lv,.int .i64 N,.bool neg,.int .i64 c] 241)).alloc (.cells #[.string ⟨#[]⟩,.string ⟨#[]⟩,.int .i64 0,.slice none 0 0,.slice none 0 0,.slice none 0 0] 184))):=j4 (((Below.refl _ _).alloc (Nat.le_refl _) _).alloc (by simp) _)
 clear HZ H1 HQ
 go_enter Tryz.func178,Tryz.ntmps178
 go_wp2_with (first|(go_at_call 224;refine (q9 D1 _ _ _ (q9 HBZ) rl (q9 HPZ) (q9 HBV)).mono ?_;rintro e w1 ⟨hb1,r,rfl,hp⟩;have HB1:=j4 (j6 (j6 (q9 HBZ) (q9 HBV)) hb1);obtain ⟨-,-,-,-,-,-,-,-,-,q0,q1,q2,q3,q4,q5,qz,ql,-,-,-,-⟩:=(q9 HNV).below hb1;have HPP:=j4 hp;clear hb1 hp)|(go_at_call 224;refine (q9 DZ _ (q9 hW2) (by simp)).mono ?_;rintro e wz ⟨hbz,z,rfl,hpz⟩;have HBZ:=j4 (j6 (q9 hW2) hbz);have hnz:=qm5.below hbz;have HNV:=j4 (hnz.alloc (.cells #[.string z.op,.string (BS z.text),.int .i64 z.cls,.slice z.pa z.pn z.pc,.slice z.ta z.tn z.tc,.slice z.ra z.rn z.rc] 184));have HBV:=j4 ((Below.refl wz.heap.size wz).alloc (Nat.le_refl _) (.cells #[.string z.op,.string (BS z.text),.int .i64 z.cls,.slice z.pa z.pn z.pc,.slice z.ta z.tn z.tc,.slice z.ra z.rn z.rc] 184));have HPZ:=j4 hpz;obtain ⟨n0,-,-,n3,-,-,-,-,-,r0,r1,r2,r3,r4,r5,rz,rl,nz0,nz1,nz2,nz3⟩:=hnz;obtain ⟨m0,-,-,m3,-,-,-,-,-,s0,s1,s2,s3,s4,s5,sz,sl,-,-,-,-⟩:=q9 HNV;clear hbz hpz))
 all_goals refine bodyPost_ret (by simp [results,Tryz.results178,go_sem,q0,q1,q2,q3,q4,q5]<;>rfl) rfl ?_
 all_goals exact q9 HQ' r w1 _ (q9 HB1) (q9 HPP) (qj0 _ _ _ _ _ _ _ _)
theorem vu4 {w:World} {a N c:Int} {iv lv inv:Value} {S E:ByteArray} {neg:Bool} {QB:ByteArray} (HT:∀W,Calls Tryz.prog 225 #[.int .i64 N] W fun e w'=>e=.returned (.string QB)∧Below W.heap.size W w')
  {PZ P:RF→World→Prop} (HZ:qg9 w PZ) (H1:qj3 w PZ P 224 fun _=>#[.string ⟨#[110,117,109,98,101,114]⟩,.string QB,.int .i64 2,.int .i64 0])
  {Q:Ending→World→Prop} (HQ:qi7 w P Q):Calls Tryz.prog 178 #[.agg #[.string ⟨#[110,117,109,98,101,114]⟩,.int .i64 a,iv,.string S,.string E,lv,.int .i64 N,.bool neg,.int .i64 c],inv] w Q:=by
 have DZ:=j4 HZ
 have D1:=j4 H1
 have HQ':=j4 HQ
 simp only [qg9,qj3,qi7,RF.v] at DZ D1 HQ'
 have hW2:Hid (Below w.heap.size w ((w.alloc (.cells #[.string ⟨#[110,117,109,98,101,114]⟩,.int .i64 a,iv,.string S,.string E,lv,.int .i64 N,.bool neg,.int .i64 c] 241)).alloc (.cells #[.string ⟨#[]⟩,.string ⟨#[]⟩,.int .i64 0,.slice none 0 0,.slice none 0 0,.slice none 0 0] 184))):=j4 (((Below.refl _ _).alloc (Nat.le_refl _) _).alloc (by simp) _)
 clear HZ H1 HQ
 have DT:=j4 HT
 clear HT
 go_enter Tryz.func178,Tryz.ntmps178
 go_wp2_with (first|(go_at_call 224;refine (q9 D1 _ _ _ (q9 HBZ) rl (q9 HPZ) (q9 HBV)).mono ?_;rintro e w1 ⟨hb1,r,rfl,hp⟩;have HB1:=j4 (j6 (j6 (q9 HBZ) (q9 HBV)) hb1);obtain ⟨-,-,-,-,-,-,-,-,-,q0,q1,q2,q3,q4,q5,qz,ql,-,-,-,-⟩:=(q9 HNV).below hb1;have HPP:=j4 hp;clear hb1 hp)|(go_at_call 225;refine (q9 DT _).mono ?_;rintro e wn ⟨rfl,hbn⟩;have HBV:=j4 (j6 (q9 HBV) hbn);have HNV:=j4 ((q9 HNV).below hbn);clear hbn)|(go_at_call 224;refine (q9 DZ _ (q9 hW2) (by simp)).mono ?_;rintro e wz ⟨hbz,z,rfl,hpz⟩;have HBZ:=j4 (j6 (q9 hW2) hbz);have hnz:=qm5.below hbz;have HNV:=j4 (hnz.alloc (.cells #[.string z.op,.string (BS z.text),.int .i64 z.cls,.slice z.pa z.pn z.pc,.slice z.ta z.tn z.tc,.slice z.ra z.rn z.rc] 184));have HBV:=j4 ((Below.refl wz.heap.size wz).alloc (Nat.le_refl _) (.cells #[.string z.op,.string (BS z.text),.int .i64 z.cls,.slice z.pa z.pn z.pc,.slice z.ta z.tn z.tc,.slice z.ra z.rn z.rc] 184));have HPZ:=j4 hpz;obtain ⟨n0,-,-,-,-,-,n6,-,-,r0,r1,r2,r3,r4,r5,rz,rl,nz0,nz1,nz2,nz3⟩:=hnz;obtain ⟨m0,-,-,-,-,-,m6,-,-,s0,s1,s2,s3,s4,s5,sz,sl,-,-,-,-⟩:=q9 HNV;clear hbz hpz))
 all_goals refine bodyPost_ret (by simp [results,Tryz.results178,go_sem,q0,q1,q2,q3,q4,q5]<;>rfl) rfl ?_
 all_goals exact q9 HQ' r w1 _ (q9 HB1) (q9 HPP) (qj0 _ _ _ _ _ _ _ _)
theorem jj8 {w:World} {a N c:Int} {iv lv inv:Value} {S E:ByteArray} {neg:Bool} {QB:ByteArray} (HT:∀W,Calls Tryz.prog 226 #[.string S] W fun e w'=>e=.returned (.string QB)∧w'=W)
  {PZ P:RF→World→Prop} (HZ:qg9 w PZ) (H1:qj3 w PZ P 224 fun _=>#[.string ⟨#[116,101,120,116]⟩,.string QB,.int .i64 3,.int .i64 (S.size:Nat)])
  {Q:Ending→World→Prop} (HQ:qi7 w P Q):Calls Tryz.prog 178 #[.agg #[.string ⟨#[116,101,120,116]⟩,.int .i64 a,iv,.string S,.string E,lv,.int .i64 N,.bool neg,.int .i64 c],inv] w Q:=by
 have DZ:=j4 HZ
 have D1:=j4 H1
 have HQ':=j4 HQ
 simp only [qg9,qj3,qi7,RF.v] at DZ D1 HQ'
 have hW2:Hid (Below w.heap.size w ((w.alloc (.cells #[.string ⟨#[116,101,120,116]⟩,.int .i64 a,iv,.string S,.string E,lv,.int .i64 N,.bool neg,.int .i64 c] 241)).alloc (.cells #[.string ⟨#[]⟩,.string ⟨#[]⟩,.int .i64 0,.slice none 0 0,.slice none 0 0,.slice none 0 0] 184))):=j4 (((Below.refl _ _).alloc (Nat.le_refl _) _).alloc (by simp) _)
 clear HZ H1 HQ
 have DT:=j4 HT
 clear HT
 go_enter Tryz.func178,Tryz.ntmps178
 go_wp2_with (go_at_call 224;refine (q9 DZ _ (q9 hW2) (by simp)).mono ?_;rintro e wz ⟨hbz,z,rfl,hpz⟩;have HBZ:=j4 (j6 (q9 hW2) hbz);have hnz:=qm5.below hbz;have HNV:=j4 (hnz.alloc (.cells #[.string z.op,.string (BS z.text),.int .i64 z.cls,.slice z.pa z.pn z.pc,.slice z.ta z.tn z.tc,.slice z.ra z.rn z.rc] 184));have HBV:=j4 ((Below.refl wz.heap.size wz).alloc (Nat.le_refl _) (.cells #[.string z.op,.string (BS z.text),.int .i64 z.cls,.slice z.pa z.pn z.pc,.slice z.ta z.tn z.tc,.slice z.ra z.rn z.rc] 184));have HPZ:=j4 hpz;obtain ⟨n0,-,-,n3,-,-,-,-,-,r0,r1,r2,r3,r4,r5,rz,rl,nz0,nz1,nz2,nz3⟩:=hnz;obtain ⟨m0,-,-,m3,-,-,-,-,-,s0,s1,s2,s3,s4,s5,sz,sl,-,-,-,-⟩:=q9 HNV;clear hbz hpz)
 go_region_held3 (fun W=>W.cell? ⟨w.heap.size,3,none⟩=some (.string S)) (first|with_reducible assumption|go_keep) (first|(go_at_call 224;refine (q9 D1 _ _ _ (q9 HBZ) rl (q9 HPZ) (q9 HBV).drew).mono ?_;rintro e w1 ⟨hb1,r,rfl,hp⟩;have HB1:=j4 (j6 (j6 (q9 HBZ) (q9 HBV).drew) hb1);obtain ⟨-,-,-,hS3,-,-,-,-,-,q0,q1,q2,q3,q4,q5,qz,ql,-,-,-,-⟩:=(q9 HNV).drew.below hb1;have HPP:=j4 hp;have hS:(w1.cell? ⟨w.heap.size,3,none⟩=some (.string S)):=hS3;clear hb1 hp)|(go_at_call 226;refine (q9 DT _).mono ?_;rintro e wq ⟨rfl,hq⟩;subst wq))
 go_wp2_with fail
 all_goals refine bodyPost_ret (by simp [results,Tryz.results178,go_sem,q0,q1,q2,q3,q4,q5]<;>rfl) rfl ?_
 all_goals exact q9 HQ' r w1 _ (q9 HB1) (q9 HPP) (qj0 _ _ _ _ _ _ _ _)
end
end Go.Proofs.YtfkcaldjphakpaaGreatDoor
