/- The document's answer. -/
import Derived.Test.YtfkcaldjphakpaaGreatDoorM37
import Derived.Test.YtfkcaldjphakpaaGreatDoorM39
set_option maxHeartbeats 16000000
set_option maxRecDepth 100000
namespace Go.Proofs.YtfkcaldjphakpaaGreatDoor
open Go.RowKit Go.Proofs.Tryz
section
attribute [local go_sem ↓] qe4
structure GaAt(w W3:World)(B2:Nat)(wq:World)(lv:Value)(ts:List (List UInt8)):Prop where
 row:TwRow wq w.heap.size lv ts
 bel:Below w.heap.size w wq
 size:W3.heap.size<=wq.heap.size
 keep:∀b,B2<=b->b<W3.heap.size->wq.heap[b]?=W3.heap[b]?
 own:∀k,lv.ownBlock=some k->k<B2\/W3.heap.size<=k
section
variable {w W3 wq w5:World} {B2:Nat} {lv:Value} {ts:List (List UInt8)}
theorem GaAt.start(w:World):GaAt w w w.heap.size w (.slice none 0 0) []:=⟨World.ownsRow_nil _ _ _ _,Below.refl _ _,Nat.le_refl _,λ_ _ _=>rfl,λk h=>by cases h⟩
theorem GaAt.form(h:GaAt w W3 B2 wq lv ts):∃a c,lv=.slice a ts.length c:=by
 rcases h.row.2 with⟨rfl,h0⟩|⟨g,cap,cur,rfl,_⟩
 ·exact⟨none,0,by rw[h0]⟩
 ·exact⟨_,_,rfl⟩
theorem GaAt.next(h:GaAt w W3 B2 wq lv ts){w2 W4:World}(h2:Below wq.heap.size wq w2)(h3:Below w2.heap.size w2 W4):GaAt w W4 w2.heap.size W4 lv ts:=
 ⟨qc3 h.row (j6 h2 h3) (Nat.le_refl _),j6 h.bel (j6 h2 h3),Nat.le_refl _,λ_ _ _=>rfl,λk hk=>.inl (Nat.lt_of_lt_of_le (h.row.lt k hk).2 h2.size)⟩
theorem GaAt.snoc(h:GaAt w W3 B2 wq lv ts){x:List UInt8}{g n cap:Nat}(h1:TwRow w5 w.heap.size (.slice (some ⟨g,0,none⟩) n cap) (ts++[x]))(h2:Below w.heap.size wq w5)(h3:∀b,b<wq.heap.size->lv.ownBlock≠some b->w5.heap[b]?=wq.heap[b]?)(h4:lv.ownBlock=some g\/wq.heap.size<g)(h5:wq.heap.size<=w5.heap.size):GaAt w W3 B2 w5 (.slice (some ⟨g,0,none⟩) n cap) (ts++[x]):=by
 have hz:=h.size;refine⟨h1,h.bel.trans h2,Nat.le_trans hz h5,λb hb hl=>(h3 b (Nat.lt_of_lt_of_le hl hz) (λe=>?_)).trans (h.keep b hb hl),λk hk=>?_⟩
 ·rcases h.own b e with h|h<;>omega
 ·obtain rfl:g=k:=by simpa [Value.ownBlock]using hk
  rcases h4 with h4|h4
  ·exact h.own g h4
  ·right;omega
end
theorem vc8{w:World}{a:Option Addr}{cap:Nat}{ss:List (List UInt8)}(h:TxIn w a ss)(h8:ss.length<=8):
  Calls prog 127 #[.slice a ss.length cap] w λe w'=>e=.returned (.tuple #[.int .i64 ((gTs ss ss.length).1.length:Nat),.int .i64 ((gTs ss ss.length).2:Nat)])/\Below w.heap.size w w':=by
 have H:=j3 h;obtain⟨n,hn⟩:∃n,ss.length=n:=⟨_,rfl⟩;rw[hn]at h8 ⊢;have HN:=j3 hn;clear h hn;go_enter func127,ntmps127
 go_wp2_with fail
 go_loopw [4,5,6] (λlv rv i wr=>∃(k:Nat) (W3:World) (B2:Nat),k<=n/\i=.int .i64 k/\rv=.int .i64 ((gTs ss k).2:Nat)/\Hid (GaAt w W3 B2 wr lv (gTs ss k).1)) (λ_ _ i _=>n - (intOf i).toNat)
 case atStart=>exact⟨0,w,w.heap.size,Nat.zero_le _,rfl,rfl,j3 (GaAt.start w)⟩
 case round=>
  obtain⟨k,W3,B2,hk,rfl,rfl,HG⟩:=hrel;have aN:=gTs_bnd ss k;obtain⟨A,hA⟩:∃A,gTs ss k=A:=⟨_,rfl⟩;rw[hA]at aN HG ⊢;have HA:=j3 hA;obtain⟨la,lc,rfl⟩:=(q9 HG).form;have hz:=(q9 HG).bel.size;have A7:A.1.length<=8 * 120000001:=Nat.le_trans aN.1 (Nat.mul_le_mul_right _ (by omega));have B9:A.2<=200 * (8 * 120000001):=Nat.le_trans aN.2 (Nat.mul_le_mul_left _ (Nat.mul_le_mul_right _ (by omega)));clear hA aN
  by_cases A1:k<n
  ·obtain⟨s,hs⟩:∃s,ss[k]?=some s:=⟨_,List.getElem?_eq_getElem (by have:=q9 HN;omega)⟩
   obtain⟨lP,sb,so,rfl,xW,s0⟩:=q9 H k s hs;have d0:wr.cell? ⟨sb,so+k,none⟩=some (.string (BS s)):=((q9 HG).bel.cell (p:=⟨sb,so+k,none⟩) xW).trans s0;have xU:sb<wr.heap.size:=by omega
   have R0:(0:Int)<=(k:Int):=by omega
   have A0:(k:Int)<(n:Int):=by omega
   have RD:=j3 (jf1 (BS s) lP wr);have HS:Hid (gTs ss (k+1)=g1T A s):=j3 (by rw[vu8 hs,q9 HA])
   cases hrd:qg4 (BS s) with
   | err en pl=>
    rw[hrd]at RD;have C1:(en==0)=false:=by rcases qi8 hrd with h|h|h|h<;>rw[h]<;>rfl
    have nK:(en != 0)=true:=by rcases qi8 hrd with h|h|h|h<;>rw[h]<;>rfl
    have uI:Hid (gTs ss (k+1)=A):=j3 (by rw[q9 HS];unfold g1T;rw[hrd]);clear hrd hs HS s0
    go_wp2_with(go_at_call 123;refine(q9 RD).mono ?_;rintro e w2⟨B9,rfl⟩;have fY:=j3 ((q9 HG).next B9 (Below.refl _ _));clear B9)
    go_roundw
    case rel=>exact⟨k+1,w2,w2.heap.size,A1,by go_num,by rw[q9 uI],by rw[q9 uI];exact fY⟩
    case measure=>simp[intOf];omega
   | ok t=>
    rw[hrd]at RD
    have CO:Hid (∀(W W':World) (rb:Nat),W.heap.size=rb->qn7 W (.ok t) (.returned (.tuple #[.pointer (some ⟨rb,0,none⟩),.int .i64 0,.int .i64 0])) W'->Calls prog 125 #[.pointer (some ⟨rb,0,none⟩)] W' λe w'=>Below W'.heap.size W' w'/\∃r:RF,e=.returned (.agg #[.string r.op,.string (BS r.text),.int .i64 r.cls,.slice r.pa r.pn r.pc,.slice r.ta r.tn r.tc,.slice r.ra r.rn r.rc])/\RfAt (λb=>False\/W'.heap.size<=b) w' (j8 t) r):=j3 (by
     rintro W W' _ rfl⟨_,_,A1,ns,cs,g,LN,cap,F6,jS,iF,c0,hN⟩
     exact jz2 hrd F6 jS iF c0 hN A1)
    have uI:Hid (gTs ss (k+1)=(trC (j8 t)).foldl qr9 A):=j3 (by rw[q9 HS];unfold g1T;rw[hrd]);obtain⟨T7,xS,jR⟩:=tr_read hrd;obtain⟨C,hC⟩:∃C,j8 t=C:=⟨_,rfl⟩;rw[hC]at CO uI T7 xS jR;have uE:=j3 xS;have IF:=j3 jR;clear hrd hs HS s0 hC xS
    go_wp2_with(first|(go_at_call 125;have _q:=N2;refine(q9 CO _ _ _ rfl (q9 N2)).mono ?_;rintro e w3⟨E8,r,rfl,hr⟩;have HR:=j3 hr;have G2:=j3 E8;clear E8 hr)|(go_at_call 123;refine(q9 RD).mono ?_;rintro e w2 A5;have N2:=j3 A5;have JD:=j3 A5.1;obtain⟨_,rfl,_⟩:=A5))
    obtain⟨W,hW⟩:∃W:World,W=w3.alloc (.cells #[.string r.op,.string (BS r.text),.int .i64 r.cls,.slice r.pa r.pn r.pc,.slice r.ta r.tn r.tc,.slice r.ra r.rn r.rc] 184):=⟨_,rfl⟩;have jH:Below w3.heap.size w3 W:=hW ▸ (Below.refl _ _).alloc (Nat.le_refl _) _
    have gW:∀k,W.cell? ⟨w3.heap.size,k,none⟩=#[.string r.op,.string (BS r.text),.int .i64 r.cls,.slice r.pa r.pn r.pc,.slice r.ta r.tn r.tc,.slice r.ra r.rn r.rc][k]?:=λk=>by rw[hW,World.cell?_alloc_at _ _ _ _ (by simp)]
    have oG:W.heap.size=w3.heap.size+1:=by rw[hW];simp
    have o8:=j3 ((q9 HG).next (q9 JD) (j6 (q9 G2) jH));have mT:=(q9 G2).size;obtain⟨⟨lt,tc,et,GD,yI,kI⟩,lr,rc,er,tF,rW,cT⟩:=((q9 HR).at'.below jH).terms;rw[qn3]at er;have PT:=j3 kI;have IY:=j3 cT;have LP:w2.heap.size<=lt:=by simpa using GD
    have EU:w2.heap.size<=lr:=by simpa using tF
    obtain⟨nT,nM⟩:∃x,(qa6 C).length=x:=⟨_,rfl⟩;have e4:W.cell? ⟨w3.heap.size,4,none⟩=some (.slice (some ⟨lt,0,none⟩) nT tc):=by rw[gW 4,←nM];exact congrArg some et
    have e5:W.cell? ⟨w3.heap.size,5,none⟩=some (.slice (some ⟨lr,0,none⟩) nT rc):=by rw[gW 5,←nM];exact congrArg some er
    have LS:nT<=120000001:=by rw[←nM,←q9 IF];exact T7
    have IP:Hid ((trC C).length=nT):=j3 (by rw[q9 IF,nM]);have OR:Hid (∀m u q,(qa6 C)[m]?=some u->(qj7 C)[m]?=some q->(trC C)[m]?=some (u,q)):=j3 λm u q hu hq=>by unfold trC;rw[List.getElem?_zip_eq_some];exact⟨hu,hq⟩
    have uL:Hid ((qa6 C).length=nT/\(qj7 C).length=nT):=j3 ⟨nM,by rw[qn3,nM]⟩;have HW:=j3 hW;rw[←hW];clear jH gW hW et er kI cT nM T7 jR GD tF HR G2 HG RD CO N2 JD d0;obtain⟨w9,rfl⟩:∃w9:World,w9=w3:=⟨_,rfl⟩
    go_loopw [4,5,11] (λlv rv j wq=>∃m:Nat,m<=nT/\j=.int .i64 m/\rv=.int .i64 ((((trC C).take m).foldl qr9 A).2:Nat)/\Hid (GaAt w W w2.heap.size wq lv (((trC C).take m).foldl qr9 A).1)) (λ_ _ j _=>nT - (intOf j).toNat)
    case atStart=>exact⟨0,Nat.zero_le _,rfl,rfl,o8⟩
    case round=>
     obtain⟨m,hm,rfl,rfl,HQ⟩:=hrel
     have aN:GBnd (((trC C).take m).foldl qr9 A) (8 * 120000001+m):=by
      have:=jr4 ((trC C).take m) (a:=A) (k:=8 * 120000001) ⟨A7,B9⟩ (λe he=>q9 uE e (List.mem_of_mem_take he));rwa [List.length_take,q9 IP,Nat.min_eq_left hm]at this
     obtain⟨X,hX⟩:∃X,((trC C).take m).foldl qr9 A=X:=⟨_,rfl⟩;rw[hX]at HQ aN ⊢;have HX:=j3 hX;have iW:=aN.1;have qW:=aN.2;obtain⟨qa,qc,rfl⟩:=(q9 HQ).form;have DY:=(q9 HQ).size;have T2:=(q9 HQ).keep;have f4:wr.cell? ⟨w9.heap.size,4,none⟩=some (.slice (some ⟨lt,0,none⟩) nT tc):=(World.cell?_of_block (w:=W) (a:=⟨w9.heap.size,4,none⟩) (T2 w9.heap.size mT (by omega))).trans e4;have f5:wr.cell? ⟨w9.heap.size,5,none⟩=some (.slice (some ⟨lr,0,none⟩) nT rc):=(World.cell?_of_block (w:=W) (a:=⟨w9.heap.size,5,none⟩) (T2 w9.heap.size mT (by omega))).trans e5;have Z2:w9.heap.size<wr.heap.size:=by omega
     clear hX aN
     by_cases hml:m<nT
     ·obtain⟨u,hu⟩:∃u,(qa6 C)[m]?=some u:=⟨_,List.getElem?_eq_getElem (by have:=(q9 uL).1;omega)⟩
      obtain⟨q,hq⟩:∃q,(qj7 C)[m]?=some q:=⟨_,List.getElem?_eq_getElem (by have:=(q9 uL).2;omega)⟩;have xQ:=q9 OR m u q hu hq;have iZ:q<=200:=q9 uE (u,q) (List.mem_of_getElem? xQ);have g0:wr.cell? ⟨lt,m,none⟩=some (.string (BS u)):=(World.cell?_of_block (w:=W) (a:=⟨lt,m,none⟩) (T2 lt LP yI)).trans (q9 PT m u hu);have g1:wr.cell? ⟨lr,m,none⟩=some (.int .i64 (q:Int)):=(World.cell?_of_block (w:=W) (a:=⟨lr,m,none⟩) (T2 lr EU rW)).trans (q9 IY m q hq);have yH:lt<wr.heap.size:=by omega
      have pS:lr<wr.heap.size:=by omega
      have wM:Hid (((trC C).take (m+1)).foldl qr9 A=qr9 X (u,q)):=j3 (by rw[List.take_add_one,xQ,List.foldl_append,q9 HX];rfl);have DD:=j3 (rhas_any (q9 HQ).row (by omega) u);obtain⟨R,hR⟩:∃R,X.1.contains u=R:=⟨_,rfl⟩;rw[hR]at DD;have yG:(0:Int)<=(m:Int):=by omega
      have jZ:(m:Int)<(nT:Int):=by omega
      obtain⟨g5,S6,w5,o6,eX,U0,aQ,qQ,qE⟩:=(q9 HQ).row.app2 (by have:=(q9 HQ).bel.size;omega) u (by omega) wr.heap.size rfl;have qK:=j3 ((q9 HQ).snoc (q9 eX) (q9 U0) (q9 aQ) (q9 qQ) (q9 qE));have i5:w5.cell? ⟨w9.heap.size,5,none⟩=some (.slice (some ⟨lr,0,none⟩) nT rc):=(World.cell?_of_block (w:=W) (a:=⟨w9.heap.size,5,none⟩) ((q9 qK).keep w9.heap.size mT (by omega))).trans e5;have i1:w5.cell? ⟨lr,m,none⟩=some (.int .i64 (q:Int)):=(World.cell?_of_block (w:=W) (a:=⟨lr,m,none⟩) ((q9 qK).keep lr EU rW)).trans (q9 IY m q hq);clear hu hq xQ T2 eX U0 aQ qQ qE
      cases R with
      | true=>
       have uF:Hid (qr9 X (u,q)=X):=j3 (by unfold qr9;rw[if_pos hR]);clear o6 qK hR i5 i1
       go_wp2_with(go_at_call 180;refine(q9 DD).mono ?_;rintro e w8⟨rfl,NW⟩;subst w8)
       go_roundw
       case rel=>exact⟨m+1,hml,by go_num,by rw[q9 wM,q9 uF],by rw[q9 wM,q9 uF];exact HQ⟩
       case measure=>simp[intOf];omega
      | false=>
       have uF:Hid (qr9 X (u,q)=(X.1++[u],X.2+q)):=j3 (by unfold qr9;rw[if_neg (by rw[hR];decide)]);clear hR
       go_wp2_with(go_at_call 180;refine(q9 DD).mono ?_;rintro e w8⟨rfl,NW⟩;subst w8)
       go_roundw
       case rel=>exact⟨m+1,hml,by go_num,by rw[q9 wM,q9 uF];go_num,by rw[q9 wM,q9 uF];exact qK⟩
       case measure=>simp[intOf];omega
     ·have vM:m=nT:=by omega
      have HF:Hid (gTs ss (k+1)=X):=j3 (by rw[q9 uI,←q9 HX,List.take_of_length_le (by rw[q9 IP];omega)]);have yE:¬(m:Int)<(nT:Int):=by omega
      clear T2
      go_wp2_with fail
      go_roundw
      case rel=>exact⟨k+1,W,w2.heap.size,A1,by go_num,by rw[q9 HF],by rw[q9 HF];exact HQ⟩
      case measure=>simp[intOf];omega
  ·have t9:k=n:=by omega
   have HF:Hid (gTs ss n=A):=j3 (by rw[←t9];exact q9 HA);have Y9:¬(k:Int)<(n:Int):=by omega
   have J5:=j3 (q9 HG).bel;clear HG
   go_wp2_with fail
   refine bodyPost_ret (by simp[results,results127,go_sem]<;>rfl) rfl ⟨?_,q9 J5⟩;rw[q9 HF]
end
section
theorem TxIn.take{w:World}{a:Option Addr}{ss:List (List UInt8)}(h:TxIn w a ss)(k:Nat):TxIn w a (ss.take k):=λj s hs=>h j s (by
 rw[List.getElem?_take]at hs
 split at hs
 ·exact hs
 ·cases hs)
theorem gTs_take(ss:List (List UInt8)){k m:Nat}(h:k<=m):gTs (ss.take m) k=gTs ss k:=by
 unfold gTs;rw[List.take_take,Nat.min_eq_left h]
theorem jz1{w:World}{a:Option Addr}{cap n:Nat}{ss:List (List UInt8)}(h:TxIn w a ss)(hn:ss.length=n)(h8:n<=8):
  Calls prog 126 #[.slice a n cap] w λe w'=>e=.returned (.int .i64 ((gTs ss n).1.length:Nat))/\Below w.heap.size w w':=by
 subst hn;have GA:=j3 (vc8 (cap:=cap) h h8);obtain⟨x,hx⟩:∃x,(gTs ss ss.length).1.length=x:=⟨_,rfl⟩;obtain⟨y,hy⟩:∃y,(gTs ss ss.length).2=y:=⟨_,rfl⟩;obtain⟨n,hn⟩:∃n,ss.length=n:=⟨_,rfl⟩;rw[hx,hy]at GA;rw[hx];rw[hn]at GA ⊢;clear h h8 hx hy hn;go_enter func126,ntmps126
 go_wp2_with(go_at_call 127;refine(q9 GA).mono ?_;rintro e w2⟨rfl,B9⟩)
 go_ret;exact⟨rfl,B9⟩
theorem rsize_any{w:World}{a:Option Addr}{cap n:Nat}{ss:List (List UInt8)}(h:TxIn w a ss)(hn:ss.length=n)(h8:n<=8):
  Calls prog 83 #[.slice a n cap] w λe w'=>e=.returned (.int .i64 ((16+16 * (gTs ss n).1.length+4 * n+(gTs ss n).2:Nat):Int))/\Below w.heap.size w w':=by
 subst hn;have GA:=j3 (vc8 (cap:=cap) h h8);have aN:=gTs_bnd ss ss.length;have A7:(gTs ss ss.length).1.length<=8 * 120000001:=Nat.le_trans aN.1 (Nat.mul_le_mul_right _ h8);have B9:(gTs ss ss.length).2<=200 * (8 * 120000001):=Nat.le_trans aN.2 (Nat.mul_le_mul_left _ (Nat.mul_le_mul_right _ h8));obtain⟨x,hx⟩:∃x,(gTs ss ss.length).1.length=x:=⟨_,rfl⟩;obtain⟨y,hy⟩:∃y,(gTs ss ss.length).2=y:=⟨_,rfl⟩;obtain⟨n,hn⟩:∃n,ss.length=n:=⟨_,rfl⟩;rw[hx,hy]at GA;rw[hx]at A7 ⊢;rw[hy]at B9 ⊢;rw[hn]at GA h8 ⊢;clear h hx hy hn aN;go_enter func83,ntmps83
 go_wp2_with(go_at_call 127;refine(q9 GA).mono ?_;rintro e w2⟨rfl,B9⟩)
 go_ret;exact⟨by go_num,by assumption⟩
def vb5(ss:List (List UInt8))(k:Nat):Option Int:=match ss[k]? with
 | none=>none
 | some s=>match qg4 (BS s) with
  | .err en _=>some en
  | .ok _=>if 80<(gTs ss (k+1)).1.length then some 8 else none
def vi2(ss:List (List UInt8)):Nat->Nat->Int×Nat
 | 0,_=>(0,0)
 | f+1,k=>match vb5 ss k with
  | some e=>(e,k)
  | none=>vi2 ss f (k+1)
def vk3(ss:List (List UInt8)):Int×Nat:=if 8<ss.length then(8,0) else vi2 ss ss.length 0
theorem vq3{w:World}{a:Option Addr}{cap n:Nat}(h8:8<n):Calls prog 81 #[.slice a n cap] w λe w'=>e=.returned (.tuple #[.int .i64 8,.int .i64 0])/\Below w.heap.size w w':=by
 have hd:decide ((n:Int) > 8)=true:=decide_eq_true (by omega);go_enter func81,ntmps81
 go_wp2_with fail
 refine bodyPost_ret (by simp[results,results81,go_sem]<;>rfl) rfl ?_;exact⟨rfl,Below.refl _ _⟩
theorem vx5{w:World}{a:Option Addr}{cap:Nat}{ss:List (List UInt8)}(h:TxIn w a ss)(gY:ss.length<=cap)(h8:ss.length<=8):
  Calls prog 81 #[.slice a ss.length cap] w λe w'=>e=.returned (.tuple #[.int .i64 (vi2 ss ss.length 0).1,.int .i64 ((vi2 ss ss.length 0).2:Nat)])/\Below w.heap.size w w':=by
 have H:=j3 h;obtain⟨n,hn⟩:∃n,ss.length=n:=⟨_,rfl⟩;rw[hn]at h8 gY ⊢;have HN:=j3 hn;obtain⟨R,hR⟩:∃R,vi2 ss n 0=R:=⟨_,rfl⟩;rw[hR];have HR:Hid (vi2 ss (n - 0) 0=R):=j3 hR;have hd:decide ((n:Int) > 8)=false:=decide_eq_false (by omega);clear h hn hR;go_enter func81,ntmps81
 go_wp2_with fail
 go_loopw [4] (λi wr=>∃k:Nat,k<=n/\i=.int .i64 k/\Hid (vi2 ss (n - k) k=R)/\Hid (Below w.heap.size w wr)) (λi _=>n - (intOf i).toNat)
 case atStart=>exact⟨0,Nat.zero_le _,rfl,HR,j3 (Below.refl _ _)⟩
 case round=>
  clear HR;obtain⟨k,hk,rfl,HR,HB⟩:=hrel;have hz:=(q9 HB).size
  by_cases A1:k<n
  ·obtain⟨s,hs⟩:∃s,ss[k]?=some s:=⟨_,List.getElem?_eq_getElem (by have:=q9 HN;omega)⟩
   obtain⟨lP,sb,so,rfl,xW,s0⟩:=q9 H k s hs;have d0:wr.cell? ⟨sb,so+k,none⟩=some (.string (BS s)):=((q9 HB).cell (p:=⟨sb,so+k,none⟩) xW).trans s0;have R0:(0:Int)<=(k:Int):=by omega
   have A0:(k:Int)<(n:Int):=by omega
   have RD:=j3 (jf1 (BS s) lP wr)
   have HC:Hid (vi2 ss (n - k) k=match vb5 ss k with|some e=>(e,k)|none=>vi2 ss (n - (k+1)) (k+1)):=j3 (by
    obtain⟨f,hf⟩:∃f,n - k=f+1:=⟨n - k - 1,by omega⟩
    rw[hf,vi2,show n - (k+1)=f by omega])
   cases hrd:qg4 (BS s) with
   | err en pl=>
    rw[hrd]at RD;have C1:(en==0)=false:=by rcases qi8 hrd with h|h|h|h<;>rw[h]<;>rfl
    have nK:(en != 0)=true:=by rcases qi8 hrd with h|h|h|h<;>rw[h]<;>rfl
    have HF:Hid (R=(en,k)):=j3 (by rw[←q9 HR,q9 HC];unfold vb5;rw[hs];simp only;rw[hrd]);clear hrd hs HC s0 HR
    go_wp2_with(go_at_call 123;refine(q9 RD).mono ?_;rintro e w2⟨B9,rfl⟩;have J2:=j3 (j6 (q9 HB) B9);clear B9)
    refine bodyPost_ret (by simp[results,results81,go_sem]<;>rfl) rfl ?_;exact⟨by rw[q9 HF],q9 J2⟩
   | ok t=>
    rw[hrd]at RD
    have TM:Hid (∀W:World,Below wr.heap.size wr W->Calls prog 126 #[.slice (some ⟨sb,so,none⟩) (k+1) cap] W λe w'=>e=.returned (.int .i64 ((gTs ss (k+1)).1.length:Nat))/\Below W.heap.size W w'):=j3 λW hW=>by
     have:=jz1 (cap:=cap) (((q9 H).take (k+1)).below (j6 (q9 HB) hW)) (by rw[List.length_take];have:=q9 HN;omega) (show k+1<=8 by omega);rwa [gTs_take ss (Nat.le_refl _)]at this
    obtain⟨x,hx⟩:∃x,(gTs ss (k+1)).1.length=x:=⟨_,rfl⟩;rw[hx]at TM;have HA:Hid (vb5 ss k=if 80<x then some 8 else none):=j3 (by unfold vb5;rw[hs];simp only;rw[hrd];simp only;rw[hx]);have SM:k+1<=cap:=by omega
    have MI:(k:Int)+1<=(cap:Int):=by omega
    have MF:(k:Int)+1<=(n:Int):=by omega
    clear hrd hs s0 hx
    by_cases bL:80<x
    ·have HF:Hid (R=(8,k)):=j3 (by rw[←q9 HR,q9 HC,q9 HA,if_pos bL])
     have MS:decide ((x:Int) > 80)=true:=decide_eq_true (by omega)
     go_wp2_with(first|(go_at_call 126;have _q:=J2;refine(q9 TM _ (q9 J2)).mono ?_;rintro e w3⟨rfl,E8⟩;have G2:=j3 (j6 (q9 HB) (j6 (q9 J2) E8));clear E8)|(go_at_call 123;refine(q9 RD).mono ?_;rintro e w2 A5;have J2:=j3 A5.1;obtain⟨_,rfl,_⟩:=A5))
     refine bodyPost_ret (by simp[results,results81,go_sem]<;>rfl) rfl ?_;exact⟨by rw[q9 HF],q9 G2⟩
    ·have HF:Hid (vi2 ss (n - (k+1)) (k+1)=R):=j3 (by rw[←q9 HR,q9 HC,q9 HA,if_neg bL])
     have MS:decide ((x:Int) > 80)=false:=decide_eq_false (by omega)
     go_wp2_with(first|(go_at_call 126;have _q:=J2;refine(q9 TM _ (q9 J2)).mono ?_;rintro e w3⟨rfl,E8⟩;have G2:=j3 (j6 (q9 HB) (j6 (q9 J2) E8));clear E8)|(go_at_call 123;refine(q9 RD).mono ?_;rintro e w2 A5;have J2:=j3 A5.1;obtain⟨_,rfl,_⟩:=A5))
     go_roundw
     case rel=>exact⟨k+1,A1,by go_num,HF,G2⟩
     case measure=>simp[intOf];omega
  ·have Y9:¬(k:Int)<(n:Int):=by omega
   have HF:Hid (R=(0,0)):=j3 (by rw[←q9 HR,show n - k=0 by omega];rfl)
   go_wp2_with fail
   refine bodyPost_ret (by simp[results,results81,go_sem]<;>rfl) rfl ?_;exact⟨by rw[q9 HF];rfl,q9 HB⟩
theorem vc6{w:World}{a:Option Addr}{cap:Nat}{ss:List (List UInt8)}(h:TxIn w a ss)(gY:ss.length<=cap):
  Calls prog 81 #[.slice a ss.length cap] w λe w'=>e=.returned (.tuple #[.int .i64 (vk3 ss).1,.int .i64 ((vk3 ss).2:Nat)])/\Below w.heap.size w w':=by
 unfold vk3
 by_cases h8:8<ss.length
 ·rw[if_pos h8];exact vq3 h8
 ·rw[if_neg h8];exact vx5 h gY (by omega)
end
section
def coS(s:List UInt8):Co:=match qg4 (BS s) with
 | .ok t=>j8 t
 | .err _ _=>.leaf ⟨3,0,[],[]⟩
theorem coS_ok{s:List UInt8}{t:Ast}(h:qg4 (BS s)=.ok t):coS s=j8 t:=by unfold coS;rw[h]
theorem ok_read{s:ByteArray}{t:Ast}(h:qg4 s=.ok t):OkC (j8 t):=by
 obtain⟨_,_,hs,hm,_,_⟩:=qs6 h;exact ok_core t hs (vr2 h) hm
theorem fld_subs:∀c,vt6 c->∀d∈vg2 c,FldP (js2 d):=by
 intro c
 induction c with
 | leaf p=>intro h d hd;obtain rfl:=List.mem_singleton.1 hd;exact h
 | un p x ih=>
  intro h d hd;rcases List.mem_append.1 hd with hd|hd
  ·exact ih h.2 d hd
  ·obtain rfl:=List.mem_singleton.1 hd;exact h.1
 | bin p x y ihx ihy=>
  intro h d hd;rcases List.mem_append.1 hd with hd|hd
  ·rcases List.mem_append.1 hd with hd|hd
   ·exact ihx h.2.1 d hd
   ·exact ihy h.2.2 d hd
  ·obtain rfl:=List.mem_singleton.1 hd;exact h.1
theorem Gath.mem{D l E:List Co}(h:Gath D l E):∀c∈E,c∈D\/c∈l:=by
 induction h with
 | nil D=>intro c hc;exact .inl hc
 | old _ _ ih=>intro c hc;rcases ih c hc with h|h;exact .inl h;exact .inr (List.mem_cons_of_mem _ h)
 | new _ _ ih=>
  intro c hc;rcases ih c hc with h|h
  ·rcases List.mem_append.1 h with h|h
   ·exact .inl h
   ·rw[List.mem_singleton.1 h];exact .inr List.mem_cons_self
  ·exact .inr (List.mem_cons_of_mem _ h)
structure AdOk(ss:List (List UInt8))(k:Nat)(E:List Co):Prop where
 pr:PrT (qs2 (ss.map coS) k).1 E
 tx:gTs ss k=(E.map x9,vd1 E)
 fld:∀c∈E,FldP (js2 c)
theorem AdOk.zero(ss:List (List UInt8)):AdOk ss 0 []:=⟨PrT.nil,rfl,by simp⟩
theorem AdOk.step{ss:List (List UInt8)}{k:Nat}{E:List Co}(h:AdOk ss k E){s:List UInt8}{t:Ast}(hs:ss[k]?=some s)(hr:qg4 (BS s)=.ok t):∃F,AdOk ss (k+1) F:=by
 have J4:=ok_read hr;obtain⟨F,hg,hp,_⟩:=PrT.place (j8 t) J4 _ E h.pr;have hc:(ss.map coS).getD k (.leaf ⟨3,0,[],[]⟩)=j8 t:=by rw[List.getD_eq_getElem?_getD,List.getElem?_map,hs];exact coS_ok hr
 refine⟨F, ?_, ?_,λc hc=>?_⟩
 ·rw[qs2,hc];exact hp
 ·rw[vu8 hs,h.tx]
  unfold g1T;rw[hr];show(trC (j8 t)).foldl qr9 (E.map x9,vd1 E)=_;rw[←gath_tx hg h.pr.ok (subs_ok _ J4)]
  congr 1
  unfold trC;rw[(vt4 (j8 t)).1,(vt4 (j8 t)).2];generalize vg2 (j8 t)=l
  induction l with
  | nil=>rfl
  | cons d l ih=>rw[List.map_cons,List.map_cons,List.map_cons,List.zip_cons_cons,ih]
 ·rcases hg.mem c hc with h'|h'
  ·exact h.fld c h'
  ·exact fld_subs _ (core_ok hr).fld c h'
theorem AdOk.len{ss:List (List UInt8)}{k:Nat}{E:List Co}(h:AdOk ss k E):(qs2 (ss.map coS) k).1.length=(gTs ss k).1.length:=by
 rw[h.pr.len,h.tx];simp
theorem vu6{p:CP}(hp:FldP p)(a b:Nat):(qv8 (qv9 p a b)).length<=16+vf6 p:=by
 obtain⟨op,num,str,esc⟩:=p;obtain⟨⟨h0,_⟩,_,h2,h3⟩:=hp;simp only at h0 h2 h3;unfold qv8 qv9 vf6;simp only
 split
 ·simp[qu1];omega
 ·split
  ·rename_i h;rw[if_pos (by omega)];simp[qu0];omega
  ·split
   ·rename_i h;rw[if_pos (by omega)];simp[qu0];omega
   ·split
    ·simp only[List.length_cons,List.length_nil];omega
    ·split<;>(simp only[List.length_cons,List.length_nil];omega)
theorem vy7{p:CP}(hp:FldP p){a b:Nat}(ha:a<=255)(hb:b<=255):SmallT (qv9 p a b):=⟨ha,hb,by have:=hp.2.2.1;show p.str.length<=255;omega,by have:=hp.2.2.2;show p.esc.length<=255;omega⟩
theorem AdOk.at{ss:List (List UInt8)}{k:Nat}{E:List Co}(h:AdOk ss k E)(bL:(gTs ss k).1.length<=80){i:Nat}{t:Tm}{c:Co}(ht:(qs2 (ss.map coS) k).1[i]?=some t)(hc:E[i]?=some c):SmallT t/\vj8 t/\(qv8 t).length<=16+vf6 (js2 c):=by
 obtain⟨u,hu,hv⟩:=h.pr.at' i c hc;rw[ht]at hu;injection hu with hu;subst hu;have hm:=List.mem_of_getElem? hc;have hf:=h.fld c hm;have ho:=ok_op (h.pr.ok c hm);have hE:E.length<=80:=by have:=h.tx;rw[this]at bL;simpa using bL
 have lt:∀{a:Nat} {x:Co},E[a]?=some x->a<=255:=λ{a x} h=>by have:=(List.getElem?_eq_some_iff.1 h).1;omega
 cases c with
 | leaf p=>
  have e:t=qv9 p 0 0:=hv;subst e;have hs:=vy7 (p:=p) hf (a:=0) (b:=0) (by omega) (by omega);refine⟨hs,qv0 _ hs ?_,vu6 hf 0 0⟩;show p.op.toNat∈_;simp only at ho;rcases(show p.op=0\/p.op=1\/p.op=2\/p.op=3\/p.op=4 by omega) with e|e|e|e|e<;>rw[e]<;>decide
 | un p x=>
  obtain⟨a,ha,rfl⟩:=hv;have hs:=vy7 (p:=p) hf (a:=a) (b:=0) (lt ha) (by omega);refine⟨hs,qv0 _ hs ?_,vu6 hf a 0⟩;show p.op.toNat∈_;simp only at ho;rcases ho with e|e|e<;>rw[e]<;>decide
 | bin p x y=>
  obtain⟨a,b,ha,hb,rfl⟩:=hv;have hs:=vy7 (p:=p) hf (a:=a) (b:=b) (lt ha) (lt hb);refine⟨hs,qv0 _ hs ?_,vu6 hf a b⟩;show p.op.toNat∈_;simp only[qw0]at ho;rcases(show p.op=6\/p.op=7\/p.op=8\/p.op=10\/p.op=11\/p.op=16\/p.op=17\/p.op=18\/p.op=19 by omega) with e|e|e|e|e|e|e|e|e<;>rw[e]<;>decide
theorem AdOk.small{ss:List (List UInt8)}{k:Nat}{E:List Co}(h:AdOk ss k E)(bL:(gTs ss k).1.length<=80){t:Tm}(ht:t∈(qs2 (ss.map coS) k).1):SmallT t/\vj8 t:=by
 obtain⟨i,hi⟩:=List.getElem?_of_mem ht;obtain⟨c,hc⟩:∃c,E[i]?=some c:=⟨_,List.getElem?_eq_getElem (by have:=(List.getElem?_eq_some_iff.1 hi).1;have:=h.pr.len;omega)⟩;have:=h.at bL hi hc;exact⟨this.1,this.2.1⟩
theorem encK_len(hd:List UInt8)(ts:List Tm):∀k,(jb5 hd ts k).length=hd.length+((List.range k).map λi=>(qv8 (ts.getD i (.bare 3))).length).sum:=by
 intro k
 induction k with
 | zero=>simp[jb5]
 | succ k ih=>rw[jb5,List.length_append,ih,List.range_succ,List.map_append,List.sum_append];simp;omega
theorem encR_len(hd:List UInt8)(rs:List Nat):∀k,(zb4 hd rs k).length=hd.length+k:=by
 intro k
 induction k with
 | zero=>rfl
 | succ k ih=>rw[zb4,List.length_append,ih];simp;omega
theorem AdOk.bytes{ss:List (List UInt8)}{k:Nat}{E:List Co}(h:AdOk ss k E)(bL:(gTs ss k).1.length<=80):(vg7 (qs2 (ss.map coS) k).1 (qs2 (ss.map coS) k).2).length<=16+16 * (gTs ss k).1.length+4 * k+(gTs ss k).2:=by
 obtain⟨ts,aX⟩:∃ts,(qs2 (ss.map coS) k).1=ts:=⟨_,rfl⟩;have F0:∀(i:Nat) (t:Tm) (c:Co),ts[i]?=some t->E[i]?=some c->(qv8 t).length<=16+vf6 (js2 c):=λi t c h1 h2=>(h.at bL (by rw[aX];exact h1) h2).2.2
 have hl:ts.length=E.length:=by rw[←aX];exact h.pr.len
 have key:∀m,m<=E.length->((List.range m).map λi=>(qv8 (ts.getD i (.bare 3))).length).sum<=16 * m+((E.take m).map λd=>vf6 (js2 d)).sum:=by
  intro m
  induction m with
  | zero=>intro _;simp
  | succ m ih=>
   intro hm;have h1:=ih (by omega);have h2:=F0 m _ _ (List.getElem?_eq_getElem (by omega)) (List.getElem?_eq_getElem (by omega));rw[List.range_succ,List.map_append,List.sum_append,List.take_add_one,List.getElem?_eq_getElem (by omega)];simp only[List.map_cons,List.map_nil,List.sum_cons,List.sum_nil,Option.toList_some,List.map_append,List.sum_append];rw[List.getD_eq_getElem?_getD,List.getElem?_eq_getElem (by omega),Option.getD_some];omega
 have h1:=key E.length (Nat.le_refl _);rw[List.take_length]at h1;have hr:=(ve6 (ss.map coS) k).1;unfold vg7;rw[encR_len,encK_len,hr,aX,h.tx,hl];simp only[List.length_map,List.length_cons,List.length_nil];unfold vd1;omega
end
section
def jh5(ss:List (List UInt8))(R:Int×Nat)(w:World)(e:Ending)(w':World):Prop:=Below w.heap.size w w'/\((R.1=0/\∃v,e=.returned (.tuple #[v,.int .i64 0,.int .i64 0])/\OB w' w.heap.size v (vg7 (qs2 (ss.map coS) ss.length).1 (qs2 (ss.map coS) ss.length).2))\/(R.1≠0/\e=.returned (.tuple #[.slice none 0 0,.int .i64 R.1,.int .i64 (R.2:Nat)])))
theorem ja7(ss:List (List UInt8)){w:World}{a:Option Addr}{cap n:Nat}(h8:8<n):Calls prog 41 #[.slice a n cap] w (jh5 ss (8,0) w):=by
 have hd:decide ((n:Int) > 8)=true:=decide_eq_true (by omega);go_enter func41,ntmps41
 go_wp2_with fail
 refine bodyPost_ret (by simp[results,results41,go_sem]<;>rfl) rfl ?_;exact⟨Below.refl _ _,.inr ⟨by decide,rfl⟩⟩
theorem jj2(ss:List (List UInt8))(h8:ss.length<=8)(a:Option Addr)(cap:Nat)(w:World)(hL:LibOk w)(hss:TxIn w a ss):Calls prog 41 #[.slice a ss.length cap] w (jh5 ss (vi2 ss ss.length 0) w):=by
 have HL:=j3 hL;have OT:=j3 hss;have NM:=j3 (jd0 w);obtain⟨n,hn⟩:∃n,ss.length=n:=⟨_,rfl⟩;obtain⟨R,hR⟩:∃R,vi2 ss ss.length 0=R:=⟨_,rfl⟩;rw[hR];rw[hn]at h8 hR ⊢;have HN:=j3 hn;have HR:Hid (vi2 ss (n - 0) 0=R):=j3 hR;clear hL hss hn hR;have TA:decide ((n:Int) > 8)=false:=decide_eq_false (by omega);go_enter func41,ntmps41
 go_wp2_with(go_at_call 68;refine(q9 NM).mono ?_;rintro e w1⟨rfl,jZ,A7⟩;have M1:=j3 jZ;have B1:=j3 A7;clear jZ A7)
 go_loopw [17] (λi wr=>∃(k:Nat) (tv rv:Value),k<=n/\i=.int .i64 k/\Hid (MkAt wr (w.heap.size+1) w.heap.size (qs2 (ss.map coS) k).1 (qs2 (ss.map coS) k).2 tv rv)/\Hid (Below w.heap.size w wr)/\Hid (vi2 ss (n - k) k=R)/\Hid ((gTs ss k).1.length<=80/\∃E,AdOk ss k E)) (λi _=>n - (intOf i).toNat)
 case atStart=>exact⟨0,_,_,Nat.zero_le _,rfl,M1,B1,HR,j3 ⟨Nat.zero_le _,[],AdOk.zero ss⟩⟩
 case round=>
  clear HR;obtain⟨k,tv,rv,hk,rfl,MK,HB,HR,HE⟩:=hrel
  by_cases A1:k<n
  ·obtain⟨s,hs⟩:∃s,ss[k]?=some s:=⟨_,List.getElem?_eq_getElem (by have:=q9 HN;omega)⟩
   obtain⟨qZ,sb,so,rfl,sblt,s0⟩:=q9 OT k s hs;have G9:=(q9 HB).size;have d0:wr.cell? ⟨sb,so+k,none⟩=some (.string (BS s)):=((q9 HB).cell (p:=⟨sb,so+k,none⟩) sblt).trans s0;have R0:(0:Int)<=(k:Int):=by omega
   have A0:(k:Int)<(n:Int):=by omega
   have RD:=j3 (read_any (BS s) wr ((q9 HL).below (q9 HB) (Nat.le_refl _)).err (by rw[qc1];exact qZ))
   have HC:Hid (vi2 ss (n - k) k=match vb5 ss k with|some e=>(e,k)|none=>vi2 ss (n - (k+1)) (k+1)):=j3 (by
    obtain⟨f,hf⟩:∃f,n - k=f+1:=⟨n - k - 1,by omega⟩;rw[hf,vi2,show n - (k+1)=f by omega]
    try(cases vb5 ss k<;>rfl))
   cases hrd:qg4 (BS s) with
   | err en pl=>
    rw[hrd]at RD;have Y7:=qi8 hrd;have C1:(en==0)=false:=by rcases Y7 with h|h|h|h<;>rw[h]<;>rfl
    have nK:(en != 0)=true:=by rcases Y7 with h|h|h|h<;>rw[h]<;>rfl
    have HF:Hid (R=(en,k)/\en≠0):=j3 ⟨by rw[←q9 HR,q9 HC];unfold vb5;rw[hs];simp only;rw[hrd],by omega⟩;clear hrd hs HC s0 HR Y7
    go_wp2_with(go_at_call 36;refine(q9 RD).mono ?_;rintro e w2⟨B9,rfl⟩;have J2:=j3 (j6 (q9 HB) B9);clear B9)
    refine bodyPost_ret (by simp[results,results41,go_sem]<;>rfl) rfl ?_;exact⟨q9 J2,.inr ⟨by rw[(q9 HF).1];exact(q9 HF).2,by rw[(q9 HF).1]⟩⟩
   | ok t=>
    rw[hrd]at RD;obtain⟨cQ,E,hE⟩:=q9 HE;obtain⟨F,hF⟩:=hE.step hs hrd;have vT:=core_ok hrd;obtain⟨c,dK⟩:∃c,j8 t=c:=⟨_,rfl⟩;rw[dK]at vT;have hc:(ss.map coS).getD k (.leaf ⟨3,0,[],[]⟩)=c:=by rw[List.getD_eq_getElem?_getD,List.getElem?_map,hs,←dK];exact coS_ok hrd
    have CO:Hid (∀(lo:Nat) (U:World) (v:Value),Below wr.heap.size wr U->IsNode lo U v t->Calls prog 40 #[v] U (qz0 wr.heap.size U c)):=j3 λlo U v hU hn=>dK ▸ cof_every lo t (λ_=>amongOk) (jw9 hrd) wr.heap.size U v hU.size ((q9 HL).below (j6 (q9 HB) hU) (Nat.le_refl _)) hn
    have hS:Hid (qs2 (ss.map coS) (k+1)=((qd7 (qs2 (ss.map coS) k).1 c).1,(qs2 (ss.map coS) k).2++[(qd7 (qs2 (ss.map coS) k).1 c).2])):=j3 (by rw[qs2,hc]);have N8:(qs2 (ss.map coS) k).1.length<=80:=by rw[hE.len];exact cQ
    have N7:=(ve6 (ss.map coS) k).1;have cI:=vT.size
    have AD:Hid (∀(U:World) (v:Value),Below wr.heap.size wr U->CoAt wr.heap.size U.heap.size U v c->Calls prog 69 #[.pointer (some ⟨w.heap.size+1,0,none⟩),v] U λe w'=>∃tv' rv',e=.returned (.tuple #[])/\MkAt w' (w.heap.size+1) w.heap.size (qs2 (ss.map coS) (k+1)).1 (qs2 (ss.map coS) (k+1)).2 tv' rv'/\Below w.heap.size w w'):=j3 (by
     intro U v hU MZ;have EX:=(q9 MK).below hU;refine(add_ends c (good_fld vT.fld) wr.heap.size _ _ U v _ _ tv rv EX MZ (λj hj=>.inl ((q9 MK).own_lt hj)) (by omega) (by omega)).mono ?_;rintro e w'⟨tv',rv',rfl,h1,h2⟩;rw[q9 hS]
     exact⟨tv',rv',rfl,h1,below_mk (j6 (q9 HB) hU) EX h2 (Nat.le_refl _)⟩)
    have C7:=hF.len;have HA:Hid (vb5 ss k=if 80<(qs2 (ss.map coS) (k+1)).1.length then some 8 else none):=j3 (by unfold vb5;rw[hs];simp only;rw[hrd];simp only;rw[C7]);have jM:Hid ((gTs ss (k+1)).1.length=(qs2 (ss.map coS) (k+1)).1.length/\∃E,AdOk ss (k+1) E):=j3 ⟨C7.symm,F,hF⟩;obtain⟨Q,hQ⟩:∃Q,qs2 (ss.map coS) (k+1)=Q:=⟨_,rfl⟩;rw[hQ]at AD HA jM;have HQ:=j3 hQ;clear hS N8 N7 hQ hs hrd dK hE hF cQ C7 hc vT cI s0
    by_cases bL:80<Q.1.length
    ·have yY:decide ((Q.1.length:Int) > 80)=true:=decide_eq_true (by omega)
     have HF:Hid (R=(8,k)):=j3 (by rw[←q9 HR,q9 HC,q9 HA,if_pos bL])
     go_wp2_with(first|(go_at_call 36;refine(q9 RD).mono ?_;rintro e w2⟨B9,v2,rfl,G8⟩;obtain⟨vb,rfl⟩:=G8.ptr;have N2:=j3 G8;have B2:=j3 B9;clear G8 B9)|(go_at_call 40;refine(q9 CO _ _ _ (q9 B2) (q9 N2)).mono ?_;rintro e w3⟨b3,rfl,eO,E8⟩;have C3:=j3 eO;have B3:=j3 (j6 (q9 B2) E8);clear eO E8)|(go_at_call 69;refine(q9 AD _ _ (q9 B3) (q9 C3)).mono ?_;rintro e w4⟨DU,JJ,rfl,cM,L7⟩;have M4:=j3 cM;have B4:=j3 L7;obtain⟨a4,c4,rfl⟩:=cM.ats.form;have e4:=cM.c0;clear cM L7)|(go_at_call 70;refine(jf9 _ 0 _ _ _ _ e4).mono ?_;rintro e w5⟨rfl,rfl⟩))
     refine bodyPost_ret (by simp[results,results41,go_sem]<;>rfl) rfl ?_;exact⟨q9 B4,.inr ⟨by rw[q9 HF];show(8:Int)≠0;decide,by rw[q9 HF]⟩⟩
    ·have yY:decide ((Q.1.length:Int) > 80)=false:=decide_eq_false (by omega)
     have HF:Hid (vi2 ss (n - (k+1)) (k+1)=R):=j3 (by rw[←q9 HR,q9 HC,q9 HA,if_neg bL])
     go_wp2_with(first|(go_at_call 36;refine(q9 RD).mono ?_;rintro e w2⟨B9,v2,rfl,G8⟩;obtain⟨vb,rfl⟩:=G8.ptr;have N2:=j3 G8;have B2:=j3 B9;clear G8 B9)|(go_at_call 40;refine(q9 CO _ _ _ (q9 B2) (q9 N2)).mono ?_;rintro e w3⟨b3,rfl,eO,E8⟩;have C3:=j3 eO;have B3:=j3 (j6 (q9 B2) E8);clear eO E8)|(go_at_call 69;refine(q9 AD _ _ (q9 B3) (q9 C3)).mono ?_;rintro e w4⟨DU,JJ,rfl,cM,L7⟩;have M4:=j3 cM;have B4:=j3 L7;obtain⟨a4,c4,rfl⟩:=cM.ats.form;have e4:=cM.c0;clear cM L7)|(go_at_call 70;refine(jf9 _ 0 _ _ _ _ e4).mono ?_;rintro e w5⟨rfl,rfl⟩))
     exact⟨⟨k+1,_,_,by omega,rfl,by rw[q9 HQ];exact M4,B4,HF,j3 ⟨by rw[(q9 jM).1];omega,(q9 jM).2⟩⟩,by simp[intOf];omega⟩
  ·have:k=n:=by omega
   subst this;have hP:=(q9 MK).prog;have gF:=ve6 (ss.map coS) k;obtain⟨cQ,E,hE⟩:=q9 HE;have N8:(qs2 (ss.map coS) k).1.length<=80:=by rw[hE.len];exact cQ
   have BY:=j3 (jx2 (w.heap.size+1) 0 _ _ wr hP (by omega) (by omega) (λt ht=>(hE.small cQ ht).1) (λt ht=>(hE.small cQ ht).2) (λr hr=>by have:=gF.2 r hr;omega) _ (λe w' h=>h));have HF:Hid (R=(0,0)):=j3 (by rw[←q9 HR,show k - k=0 by omega];rfl);clear hP gF N8 hE cQ
   go_wp2_with(go_at_call 71;refine(q9 BY).mono ?_;rintro e w2⟨v2,rfl,I2,B9⟩;have O2:=j3 I2;have B2:=j3 B9;obtain⟨a2,c2,rfl⟩:=I2.form;clear I2 B9)
   refine bodyPost_ret (by simp[results,results41,go_sem]<;>rfl) rfl ?_;refine⟨(q9 HB).trans ((q9 B2).mono (q9 HB).size),.inl ⟨by rw[q9 HF],_,rfl, ?_⟩⟩;rw[q9 HN];have h:=q9 O2;refine⟨h.1, ?_⟩;rcases h.2 with hn|⟨g,cap,cur,hv,K7,rest⟩
   ·exact .inl hn
   ·exact .inr ⟨g,cap,cur,hv,Nat.le_trans (q9 HB).size K7,rest⟩
theorem vk6(ss:List (List UInt8))(a:Option Addr)(cap:Nat)(w:World)(hL:LibOk w)(hss:TxIn w a ss):Calls prog 41 #[.slice a ss.length cap] w (jh5 ss (vk3 ss) w):=by
 unfold vk3
 by_cases h8:8<ss.length
 ·rw[if_pos h8];exact ja7 ss h8
 ·rw[if_neg h8];exact jj2 ss (by omega) a cap w hL hss
end
end Go.Proofs.YtfkcaldjphakpaaGreatDoor
