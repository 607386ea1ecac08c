/- The document's answer. -/
import Derived.Test.YtfkcaldjphakpaaGreatDoorM26
set_option maxHeartbeats 32000000
set_option maxRecDepth 100000
namespace Go.Proofs.YtfkcaldjphakpaaGreatDoor
open Go.RowKit Go.Proofs.Tryz
section
attribute [local go_sem ↓] qe4
def PartsAt(N:Nat->Prop)(w:World)(pv:Value)(cs:List Co):Prop:=
 ∃b cap,pv=.slice (some ⟨b,0,none⟩) cs.length cap/\b<w.heap.size/\∀(k:Nat) (c:Co),cs[k]?=some c->∃p1 t1 r1,SideAt w b (k * 6) c p1 t1 r1/\RcAt N w c p1 t1 r1
theorem PartsAt.below{N:Nat->Prop}{w w':World}{pv:Value}{cs:List Co}(h:PartsAt N w pv cs)(hb:Below w.heap.size w w'):PartsAt N w' pv cs:=by
 obtain⟨b,cap,e,A1,hk⟩:=h;refine⟨b,cap,e,Nat.lt_of_lt_of_le A1 hb.size,λk c hc=>?_⟩;obtain⟨p1,t1,r1,h1,h2⟩:=hk k c hc;exact⟨p1,t1,r1,h1.keep (hb.block b A1),h2.below hb⟩
theorem TwRow.txt{w:World}{base:Nat}{v:Value}{ts:List (List UInt8)}(h:TwRow w base v ts)(C1:ts≠[]):TxN (λb=>base<=b) w v ts:=by
 have h':=h;rcases h.2 with⟨rfl,h0⟩|⟨g,cap,cur,rfl,K7,J1,_⟩
 ·exact absurd (List.eq_nil_of_length_eq_zero h0) C1
 ·refine⟨g,cap,rfl,K7,(Array.getElem?_eq_some_iff.1 J1).1,λk t ht=>?_⟩
  have hk:=(List.getElem?_eq_some_iff.1 ht).1;rw[World.ownsRow.cellAt h' k (by omega),qa1,List.getElem?_map,ht];rfl
theorem NmRow.nums{w:World}{base:Nat}{v:Value}{l:List Nat}(h:NmRow w base v l)(C1:l≠[]):NmN (λb=>base<=b) w v l:=by
 have h':=h;rcases h.2 with⟨rfl,h0⟩|⟨g,cap,cur,rfl,K7,J1,_⟩
 ·exact absurd (List.eq_nil_of_length_eq_zero h0) C1
 ·refine⟨g,cap,rfl,K7,(Array.getElem?_eq_some_iff.1 J1).1,λk t ht=>?_⟩
  have hk:=(List.getElem?_eq_some_iff.1 ht).1;rw[World.ownsRow.cellAt h' k (by omega),qy5,List.getElem?_map,ht];rfl
theorem vd0{base e size n:Nat}{U:World}{v:Value}{xs:List Value}(h:U.ownsRow base e size v n xs):∃a c,v=.slice a n c:=by
 rcases h.2 with⟨rfl,h0⟩|⟨g,cap,cur,rfl,_⟩
 ·exact⟨none,0,by rw[h0]⟩
 ·exact⟨_,_,rfl⟩
theorem add0(b k:Nat):(⟨b,0,none⟩:Addr).add k=⟨b,k,none⟩:=by
 cases k<;>simp[Addr.add]
theorem vt2{base e size n q:Nat}{W:World}{v:Value}{xs:List Value}(h:W.ownsRow base e size v n xs)(hq:q<base)(a b c d f g:Value):((((((W.setCell ⟨q,0,none⟩ a).setCell ⟨q,1,none⟩ b).setCell ⟨q,2,none⟩ c).setCell ⟨q,3,none⟩ d).setCell ⟨q,4,none⟩ f).setCell ⟨q,5,none⟩ g).ownsRow base e size v n xs:=
 ownsRow_setCell_below (ownsRow_setCell_below (ownsRow_setCell_below (ownsRow_setCell_below (ownsRow_setCell_below (ownsRow_setCell_below h hq _) hq _) hq _) hq _) hq _) hq _
def MadeEnds(w:World)(op:ByteArray)(text:List UInt8)(cl:Int)(pv:Value)(ts:List (List UInt8))(rs:List Nat)(e:Ending)(w':World):Prop:=
 Below w.heap.size w w'/\∃tv rv,e=.returned (.agg #[.string op,.string (BS text),.int .i64 cl,pv,tv,rv])/\TxN (λb=>w.heap.size<=b) w' tv ts/\NmN (λb=>w.heap.size<=b) w' rv rs
theorem je7{N:Nat->Prop}{w:World}(op:ByteArray)(text:List UInt8)(cl:Int)(raw:Nat){pv:Value}{cs:List Co}(hp:PartsAt N w pv cs)(G8:cs.length<=2)(aN:(cs.flatMap qa6).length<=900000000):
  Calls prog 229 #[.string op,.string (BS text),.int .i64 cl,pv,.int .i64 (raw:Int)] w (MadeEnds w op text cl pv (cs.flatMap qa6++[text]) (cs.flatMap qj7++[raw])):=by
 have N7:(cs.flatMap qj7).length=(cs.flatMap qa6).length:=by
  clear hp G8 aN
  induction cs with
  | nil=>rfl
  | cons c t ih=>rw[List.flatMap_cons,List.flatMap_cons,List.length_append,List.length_append,ih,qn3]
 have HP:=j3 hp;obtain⟨pb,pcap,rfl,R8,lR⟩:=hp;have PA:=j3 lR;obtain⟨n,hn⟩:∃n,cs.length=n:=⟨_,rfl⟩;have HN:=j3 hn;rw[hn]at G8 HP ⊢;have M0:Hid (MdAt w ((w.alloc (.cells #[.string ⟨#[]⟩,.string ⟨#[]⟩,.int .i64 0,.slice none 0 0,.slice none 0 0,.slice none 0 0] 184)).alloc (.cells #[.string op,.string (BS text),.int .i64 cl,.slice (some ⟨pb,0,none⟩) n pcap,.slice none 0 0,.slice none 0 0] 184)) op (BS text) cl (.slice (some ⟨pb,0,none⟩) n pcap) (.slice none 0 0) (.slice none 0 0) [] []):=j3 ⟨by simp,by simp,by simp,by simp,by simp,by simp,λi=>by simp,by simp,(Below.refl _ _).alloc (by simp) _,World.ownsRow_nil _ _ _ _,World.ownsRow_nil _ _ _ _⟩;have dU:=j3 aN;have wN:=j3 N7;clear lR hn aN N7;go_enter func229,ntmps229
 go_wp2_with fail
 go_loopw [12] (λi wr=>∃(k:Nat) (tv rv:Value),k<=n/\i=.int .i64 k/\Hid (MdAt w wr op (BS text) cl (.slice (some ⟨pb,0,none⟩) n pcap) tv rv ((cs.take k).flatMap qa6) ((cs.take k).flatMap qj7))) (λi _=>n - (intOf i).toNat)
 case atStart=>exact⟨0,_,_,Nat.zero_le _,rfl,M0⟩
 case round=>
  clear M0;obtain⟨k,tv,rv,hk,rfl,HM⟩:=hrel;have fM:pb<wr.heap.size:=by have:=(q9 HM).bel0.size;omega
  have cP:=(q9 HM).lt;have LR:¬pb=w.heap.size+1:=by omega
  by_cases A1:k<n
  ·obtain⟨c,hc⟩:∃c,cs[k]?=some c:=⟨_,List.getElem?_eq_getElem (by have:=q9 HN;omega)⟩
   obtain⟨p1,t1,r1,xV,xX⟩:=q9 PA k c hc;have T4:=(q9 HM).bel0;have xU:=xV.keep (T4.block pb R8);obtain⟨tb,tc,rfl,_,gD,iY⟩:=(xX.below T4).terms.1;have f4:wr.cell? ⟨pb,k * 6+4,none⟩=some (.slice (some ⟨tb,0,none⟩) (qa6 c).length tc):=xU 4 (by omega)
   have mC:(cs.take (k+1)).flatMap qa6=(cs.take k).flatMap qa6++qa6 c/\(cs.take (k+1)).flatMap qj7=(cs.take k).flatMap qj7++qj7 c:=by
    rw[List.take_add_one,hc];simp
   have eC:((cs.take (k+1)).flatMap qa6).length<=900000000:=by
    refine Nat.le_trans ?_ (q9 dU);rw[show cs.flatMap qa6=(cs.take (k+1)).flatMap qa6++(cs.drop (k+1)).flatMap qa6 by rw[←List.flatMap_append,List.take_append_drop],List.length_append];omega
   have bZ:((cs.take k).flatMap qa6).length+(qa6 c).length<=900000000:=by rw[mC.1,List.length_append]at eC;exact eC
   have Y7:0<(qa6 c).length:=List.length_pos_iff.2 (termsC_ne c);obtain⟨g5,S6,W5,iB,DK,w5z,w5l,fX⟩:=(q9 HM).drew.appT (a:=⟨tb,0,none⟩) (c:=tc) rfl Y7 (λj t hj=>by rw[add0];exact iY j t hj) (by omega) 62;obtain⟨X5,cD⟩:∃X,X=W5.setCell ⟨w.heap.size+1,4,none⟩ (.slice (some ⟨g5,0,none⟩) (((cs.take k).flatMap qa6).length+(qa6 c).length) S6):=⟨_,rfl⟩;rw[←cD]at fX;have S4:=(q9 fX).bel0;have rA:=xV.keep (S4.block pb R8);obtain⟨rb,rc,rfl,_,g9,EO⟩:=(xX.below S4).terms.2;have x5:X5.cell? ⟨pb,k * 6+5,none⟩=some (.slice (some ⟨rb,0,none⟩) (qj7 c).length rc):=rA 5 (by omega);have xl:=(q9 fX).lt;have uT:=(q9 fX).c5;have xpl:pb<X5.heap.size:=by have:=S4.size;omega
   have rD:((cs.take k).flatMap qj7).length=((cs.take k).flatMap qa6).length:=by
    have:∀l:List Co,(l.flatMap qj7).length=(l.flatMap qa6).length:=by
     intro l
     induction l with
     | nil=>rfl
     | cons c t ih=>rw[List.flatMap_cons,List.flatMap_cons,List.length_append,List.length_append,ih,qn3]
    exact this _
   obtain⟨g6,bM,W6,bJ,JF,w6z,w6l,qJ⟩:=(q9 fX).drew.appR' (a:=⟨rb,0,none⟩) (c:=rc) rfl (by rw[qn3];exact Y7) (λj t hj=>by rw[add0];exact EO j t hj) (by rw[qn3,rD];omega) 52;rw[←mC.1,←mC.2]at qJ;have m4:=(q9 HM).c4;have mz:=(q9 HM).fz;have tsl:∃a c,tv=.slice a ((cs.take k).flatMap qa6).length c:=vd0 (q9 HM).tr;have rsl:∃a c,rv=.slice a ((cs.take k).flatMap qj7).length c:=vd0 (q9 HM).rr;obtain⟨ta,tcc,rfl⟩:=tsl;obtain⟨ra,rcc,rfl⟩:=rsl;have R0:(0:Int)<=(k:Int):=by omega
   have A0:(k:Int)<(n:Int):=by omega
   obtain⟨N1,tH⟩:∃N,((cs.take k).flatMap qa6).length=N:=⟨_,rfl⟩;obtain⟨N2,tG⟩:∃N,((cs.take k).flatMap qj7).length=N:=⟨_,rfl⟩;obtain⟨N3,GF⟩:∃N,(qa6 c).length=N:=⟨_,rfl⟩;obtain⟨N4,GE⟩:∃N,(qj7 c).length=N:=⟨_,rfl⟩;rw[tH]at m4 iB cD DK;rw[GF]at f4 iB cD;rw[tG]at uT bJ JF qJ;rw[GE]at x5 bJ qJ;have wH:=j3 cD;clear hc xV xX T4 xU iY mC eC bZ Y7 S4 rA EO rD tH tG GF GE cD HM fX
   go_wp2_with fail
   go_region
   all_goals go_wp2_with fail
   all_goals rw[←q9 wH]
   all_goals clear DK w5z w5l iB m4 mz f4 wH
   all_goals go_region
   all_goals go_wp2_with fail
   all_goals
    go_roundw
    case rel=>exact⟨k+1,_,_,by omega,by go_num,qJ⟩
    case measure=>simp[intOf];omega
  ·have t9:k=n:=by omega
   have vK:¬(k:Int)<(n:Int):=by omega
   have iY:cs.take k=cs:=List.take_of_length_le (by have:=q9 HN;omega);rw[iY]at HM
   obtain⟨g7,AV,W7,sX,DJ,w7z,w7l,dQ⟩:=((q9 HM).alloc (.cells #[.string (BS text)] 9)).appT (a:=⟨wr.heap.size,0,none⟩) (c:=1) (us:=[text]) (m:=1) rfl (by omega) (λj t hj=>by
    cases j with
    | zero=>
     obtain rfl:text=t:=by simpa using hj
     rw[add0];simp
    | succ j=>simp at hj) (by have:=q9 dU;omega) 62
   obtain⟨X7,vW⟩:∃X,X=W7.setCell ⟨w.heap.size+1,4,none⟩ (.slice (some ⟨g7,0,none⟩) ((cs.flatMap qa6).length+1) AV):=⟨_,rfl⟩;rw[←vW]at dQ
   obtain⟨g8,AU,W8,sW,DI,w8z,w8l,dP⟩:=((q9 dQ).alloc (.cells #[.int .i64 (raw:Int)] 3)).appR' (a:=⟨X7.heap.size,0,none⟩) (c:=1) (us:=[raw]) (m:=1) rfl (by omega) (λj t hj=>by
    cases j with
    | zero=>
     obtain rfl:raw=t:=by simpa using hj
     rw[add0];simp
    | succ j=>simp at hj) (by have:=q9 dU;have:=q9 wN;omega) 52
   obtain⟨X8,vV⟩:∃X,X=W8.setCell ⟨w.heap.size+1,5,none⟩ (.slice (some ⟨g8,0,none⟩) ((cs.flatMap qj7).length+1) AU):=⟨_,rfl⟩;rw[←vV]at dP;have m4:=(q9 HM).c4;have mz:=(q9 HM).fz;have QH:=(q9 dQ).lt;have uT:=(q9 dQ).c5;have JE:=(q9 dQ).fz;have tsl:∃a c,tv=.slice a (cs.flatMap qa6).length c:=vd0 (q9 HM).tr;have rsl:∃a c,rv=.slice a (cs.flatMap qj7).length c:=vd0 (q9 HM).rr;obtain⟨ta,tcc,rfl⟩:=tsl;obtain⟨ra,rcc,rfl⟩:=rsl;have y0:=(q9 dP).c0;have y1:=(q9 dP).c1;have y2:=(q9 dP).c2;have y3:=(q9 dP).c3;have y4:=(q9 dP).c4;have y5:=(q9 dP).c5;have yl:=(q9 dP).lt;have yb:=(q9 dP).bel;have r0:X8.cell? ⟨w.heap.size,0,none⟩=some (.string ⟨#[]⟩):=(yb.cell (p:=⟨w.heap.size,0,none⟩) (Nat.lt_succ_self _)).trans (by simp);have r1:X8.cell? ⟨w.heap.size,1,none⟩=some (.string ⟨#[]⟩):=(yb.cell (p:=⟨w.heap.size,1,none⟩) (Nat.lt_succ_self _)).trans (by simp);have r2:X8.cell? ⟨w.heap.size,2,none⟩=some (.int .i64 0):=(yb.cell (p:=⟨w.heap.size,2,none⟩) (Nat.lt_succ_self _)).trans (by simp);have r3:X8.cell? ⟨w.heap.size,3,none⟩=some (.slice none 0 0):=(yb.cell (p:=⟨w.heap.size,3,none⟩) (Nat.lt_succ_self _)).trans (by simp);have r4:X8.cell? ⟨w.heap.size,4,none⟩=some (.slice none 0 0):=(yb.cell (p:=⟨w.heap.size,4,none⟩) (Nat.lt_succ_self _)).trans (by simp);have r5:X8.cell? ⟨w.heap.size,5,none⟩=some (.slice none 0 0):=(yb.cell (p:=⟨w.heap.size,5,none⟩) (Nat.lt_succ_self _)).trans (by simp);have rz:∀i,X8.frozen? ⟨w.heap.size,i,none⟩=false:=λi=>(yb.frozen (p:=⟨w.heap.size,i,none⟩) (Nat.lt_succ_self _)).trans (by simp)
   have rl:w.heap.size<X8.heap.size:=by omega
   obtain⟨N1,tH⟩:∃N,(cs.flatMap qa6).length=N:=⟨_,rfl⟩;obtain⟨N2,tG⟩:∃N,(cs.flatMap qj7).length=N:=⟨_,rfl⟩;rw[tH]at m4 sX vW DJ y4 dP;rw[tG]at uT sW vV DI y5 dP;have HU:=j3 vW;have HH:=j3 vV;clear t9 iY tH tG vW vV yb HM dQ
   go_upto_region 8 with fail
   rw[←q9 HU];clear DJ w7z w7l sX m4 mz HU
   go_upto_region 9 with fail
   rw[←q9 HH];clear DI w8z w8l sW uT JE HH
   go_wp2_with fail
   refine bodyPost_ret (by simp[results,results229,go_sem,r0,r1,r2,r3,r4,r5]<;>rfl) rfl ⟨?_, ?_⟩
   ·refine Below.setCell (Below.setCell (Below.setCell (Below.setCell (Below.setCell (Below.setCell (q9 dP).bel0 ?_ _) ?_ _) ?_ _) ?_ _) ?_ _) ?_ _<;>exact Nat.le_refl _
   ·refine⟨_,_,rfl, ?_, ?_⟩
    ·exact(TwRow.txt (base:=w.heap.size+2) (vt2 (q9 dP).tr (by omega) _ _ _ _ _ _) (by simp)).keep (λ_ _ _=>rfl) (Nat.le_refl _) (λb hb _=>by have T9:w.heap.size+2<=b:=hb;show w.heap.size<=b;omega)
    ·exact(NmRow.nums (base:=w.heap.size+2) (vt2 (q9 dP).rr (by omega) _ _ _ _ _ _) (by simp)).keep (λ_ _ _=>rfl) (Nat.le_refl _) (λb hb _=>by have T9:w.heap.size+2<=b:=hb;show w.heap.size<=b;omega)
end
section
structure RF where
 op:ByteArray
 text:List UInt8
 cls:Int
 pa:Option Addr
 pn:Nat
 pc:Nat
 ta:Option Addr
 tn:Nat
 tc:Nat
 ra:Option Addr
 rn:Nat
 rc:Nat
def RF.v(f:RF):Value:=.agg #[.string f.op,.string (BS f.text),.int .i64 f.cls,.slice f.pa f.pn f.pc,.slice f.ta f.tn f.tc,.slice f.ra f.rn f.rc]
def RF.pv(f:RF):Value:=.slice f.pa f.pn f.pc
def RF.tv(f:RF):Value:=.slice f.ta f.tn f.tc
def RF.rv(f:RF):Value:=.slice f.ra f.rn f.rc
structure RfAt(N:Nat->Prop)(w:World)(c:Co)(f:RF):Prop where
 op:f.op=BS (qb7 (opC c))
 text:f.text=x9 c
 cls:f.cls=ji9 (opC c)
 at':RcAt N w c f.pv f.tv f.rv
theorem RfAt.below{N:Nat->Prop}{w w':World}{c:Co}{f:RF}(h:RfAt N w c f)(hb:Below w.heap.size w w'):RfAt N w' c f:=⟨h.op,h.text,h.cls,h.at'.below hb⟩
theorem RfAt.keep{N N':Nat->Prop}{w w':World}{c:Co}{f:RF}(h:RfAt N w c f)(hk:∀b,N b->b<w.heap.size->w'.heap[b]?=w.heap[b]?)(hz:w.heap.size<=w'.heap.size)(hN:∀b,N b->b<w.heap.size->N' b):RfAt N' w' c f:=⟨h.op,h.text,h.cls,h.at'.keep hk hz hN⟩
theorem RcAt.rf{N:Nat->Prop}{w:World}{c:Co}{pv tv rv:Value}(h:RcAt N w c pv tv rv):∃f:RF,f.v=rcV c pv tv rv/\RfAt N w c f:=by
 obtain⟨⟨a,n,k,rfl⟩,⟨b,m,l,rfl⟩,d,p,q,rfl⟩:=h.slices;exact⟨⟨_,x9 c,_,a,n,k,b,m,l,d,p,q⟩,rfl,rfl,rfl,rfl,h⟩
def qp6(N:Nat->Prop)(w:World)(c:Co)(e:Ending)(w':World):Prop:=Below w.heap.size w w'/\∃f:RF,e=.returned f.v/\RfAt (λb=>N b\/w.heap.size<=b) w' c f
theorem RcEnds.rf{N:Nat->Prop}{w w':World}{c:Co}{e:Ending}(h:RcEnds N w c e w'):qp6 N w c e w':=by
 obtain⟨hb,pv,tv,rv,rfl,hr⟩:=h;obtain⟨f,e,hf⟩:=hr.rf;exact⟨hb,f,by rw[e],hf⟩
def qa2(f:RF):List Value:=[.string f.op,.string (BS f.text),.int .i64 f.cls,.slice f.pa f.pn f.pc,.slice f.ta f.tn f.tc,.slice f.ra f.rn f.rc]
theorem parts2{N:Nat->Prop}{w:World}{pb:Nat}{x y:Co}{f g:RF}(hx:RfAt N w x f)(hy:RfAt N w y g)(A1:pb<w.heap.size)(hc:∀k,k<12->w.cell? ⟨pb,k,none⟩=(qa2 f++qa2 g)[k]?):PartsAt N w (.slice (some ⟨pb,0,none⟩) 2 2) [x,y]:=by
 refine⟨pb,2,rfl,A1,λk c hk=>?_⟩
 match k,hk with
 | 0,hk=>
  obtain rfl:x=c:=by simpa using hk
  refine⟨f.pv,f.tv,f.rv,λj hj=>?_,hx.at'⟩;rw[show 0 * 6+j=j by omega,hc j (by omega),List.getElem?_append_left (by exact hj)];unfold qa2 vx4;rw[hx.op,hx.text,hx.cls];rfl
 | 1,hk=>
  obtain rfl:y=c:=by simpa using hk
  refine⟨g.pv,g.tv,g.rv,λj hj=>?_,hy.at'⟩;rw[show 1 * 6+j=6+j by omega,hc (6+j) (by omega),List.getElem?_append_right (by show 6<=6+j;omega),show 6+j - (qa2 f).length=j by show 6+j - 6=j;omega];unfold qa2 vx4;rw[hy.op,hy.text,hy.cls];rfl
 | k+2,hk=>simp at hk
theorem parts1{N:Nat->Prop}{w:World}{pb cap:Nat}{x:Co}{f:RF}(hx:RfAt N w x f)(A1:pb<w.heap.size)(hc:∀k,k<6->w.cell? ⟨pb,k,none⟩=(qa2 f)[k]?):PartsAt N w (.slice (some ⟨pb,0,none⟩) 1 cap) [x]:=by
 refine⟨pb,cap,rfl,A1,λk c hk=>?_⟩
 match k,hk with
 | 0,hk=>
  obtain rfl:x=c:=by simpa using hk
  refine⟨f.pv,f.tv,f.rv,λj hj=>?_,hx.at'⟩;rw[show 0 * 6+j=j by omega,hc j hj];unfold qa2 vx4;rw[hx.op,hx.text,hx.cls];rfl
 | k+1,hk=>simp at hk
def qv7(c:Co):Prop:=(x9 c).length<=400000000/\(qa6 c).length<=400000000
theorem rmade_two{N:Nat->Prop}{w:World}{pb:Nat}(o:Int)(T:List UInt8){x y:Co}(hT:T=x9 (.bin (qa0 o) x y))(hr:o≠0/\o≠2/\o≠22)(hp:PartsAt N w (.slice (some ⟨pb,0,none⟩) 2 2) [x,y])(hN:N pb)(hx:qv7 x)(hy:qv7 y):
  Calls prog 229 #[.string (BS (qb7 o)),.string (BS T),.int .i64 (ji9 o),.slice (some ⟨pb,0,none⟩) 2 2,.int .i64 0] w (qp6 N w (.bin (qa0 o) x y)):=by
 subst hT;have:=je7 (BS (qb7 o)) (x9 (.bin (qa0 o) x y)) (ji9 o) 0 hp (by simp) (by have:=hx.2;have:=hy.2;simp;omega);refine this.mono ?_;rintro e w'⟨hb,tv,rv,rfl,h1,h2⟩;refine RcEnds.rf ⟨hb,_,tv,rv,rfl, ?_⟩;obtain⟨b,cap,e,A1,hk⟩:=hp.below hb;obtain⟨p1,t1,r1,s1,a1⟩:=hk 0 x rfl;obtain⟨p2,t2,r2,s2,a2⟩:=hk 1 y rfl;have cB:pb=b:=by injection e with e;injection e with e;injection e
 refine⟨⟨b,cap,p1,t1,r1,p2,t2,r2,e,.inl (cB ▸ hN),A1,s1,a1.mono (λ_ h _=>.inl h),s2,a2.mono (λ_ h _=>.inl h)⟩, ?_, ?_⟩
 ·have:=h1.keep (N':=λb=>N b\/w.heap.size<=b) (λ_ _ _=>rfl) (Nat.le_refl _) (λ_ h _=>.inr h)
  simpa [qa6]using this
 ·have hz:vf6 (qa0 o)=0:=by unfold vf6 qa0;rw[if_neg (by simp only;omega)]
  have:=h2.keep (N':=λb=>N b\/w.heap.size<=b) (λ_ _ _=>rfl) (Nat.le_refl _) (λ_ h _=>.inr h);simpa [qj7,hz]using this
end
section
structure SixAt(q:Nat)(W W':World):Prop where
 block:∀k,k≠q->W'.heap[k]?=W.heap[k]?
 size:W'.heap.size=W.heap.size
 bel:∀(B:Nat) (a:World),B<=q->Below B a W->Below B a W'
theorem qi2(W:World)(q:Nat)(a b c d f g:Value):SixAt q W ((((((W.setCell ⟨q,0,none⟩ a).setCell ⟨q,1,none⟩ b).setCell ⟨q,2,none⟩ c).setCell ⟨q,3,none⟩ d).setCell ⟨q,4,none⟩ f).setCell ⟨q,5,none⟩ g):=by
 refine⟨λk hk=>?_,by simp only[World.size_setCell],λB a hq hb=>(((((hb.setCell hq _).setCell hq _).setCell hq _).setCell hq _).setCell hq _).setCell hq _⟩;rw[Below.heap_setCell _ ⟨q,5,none⟩ _ k hk,Below.heap_setCell _ ⟨q,4,none⟩ _ k hk,Below.heap_setCell _ ⟨q,3,none⟩ _ k hk,Below.heap_setCell _ ⟨q,2,none⟩ _ k hk,Below.heap_setCell _ ⟨q,1,none⟩ _ k hk,Below.heap_setCell _ ⟨q,0,none⟩ _ k hk]
theorem SixAt.rf{q:Nat}{N N':Nat->Prop}{W W':World}{c:Co}{f:RF}(h:SixAt q W W')(hf:RfAt N W c f)(hq:¬N q)(hN:∀b,N b->b<W.heap.size->N' b):RfAt N' W' c f:=
 hf.keep (λb hb _=>h.block b (λe=>hq (e ▸ hb))) (by rw[h.size];exact Nat.le_refl _) hN
theorem jz3{w:World}{f g:RF}{O:ByteArray}{cl:Int}{sw:Bool}(ho:(O=⟨#[65,78,68]⟩/\cl=1/\sw=true)\/(O=⟨#[79,82]⟩/\cl=1/\sw=true)\/(O=⟨#[61]⟩/\cl=1/\sw=true)\/(O=⟨#[60]⟩/\cl=1/\sw=false)\/(O=⟨#[60,61]⟩/\cl=1/\sw=false)\/(O=⟨#[43]⟩/\cl=2/\sw=true)\/(O=⟨#[45]⟩/\cl=2/\sw=false)\/(O=⟨#[42]⟩/\cl=2/\sw=true)\/(O=⟨#[47]⟩/\cl=2/\sw=false))(A1:(sw&&Op.bytesLess g.text f.text)=false)(z1:f.text.length<=400000000)(z2:g.text.length<=400000000){T:List UInt8}(hT:T=[40]++f.text++[32]++O.data.toList++[32]++g.text++[41])
  {P:RF->World->Prop} (HM:∀W,Below w.heap.size w W->w.heap.size+1+1+1<W.heap.size->(∀k,k<12->W.cell? ⟨w.heap.size+1+1+1,k,none⟩=(qa2 f++qa2 g)[k]?) ->
   Calls prog 229 #[.string O,.string (BS T),.int .i64 cl,.slice (some ⟨w.heap.size+1+1+1,0,none⟩) 2 2,.int .i64 0] W λe w'=>Below W.heap.size W w'/\∃r:RF,e=.returned r.v/\P r w')
  {Q:Ending->World->Prop} (HQ:∀r w1 w',Below w.heap.size w w1->P r w1->SixAt (w.heap.size+1+1) w1 w'->Q (.returned r.v) w') :
  Calls prog 227 #[.string O,f.v,g.v] w Q:=by
 have GC:O.size<=3:=by rcases ho with⟨rfl,rfl,rfl⟩|⟨rfl,rfl,rfl⟩|⟨rfl,rfl,rfl⟩|⟨rfl,rfl,rfl⟩|⟨rfl,rfl,rfl⟩|⟨rfl,rfl,rfl⟩|⟨rfl,rfl,rfl⟩|⟨rfl,rfl,rfl⟩|⟨rfl,rfl,rfl⟩<;>decide
 obtain⟨R1,e1,y1,a1⟩:=qg8 ⟨#[40]⟩ (BS f.text) 1 400000000 (Nat.le_refl _) (by rw[qc1];exact z1) (by decide);obtain⟨R2,e2,y2,a2⟩:=qg8 R1 ⟨#[32]⟩ 400000001 1 y1 (Nat.le_refl _) (by decide);obtain⟨R3,e3,y3,a3⟩:=qg8 R2 O 400000002 3 y2 GC (by decide);obtain⟨R4,e4,y4,a4⟩:=qg8 R3 ⟨#[32]⟩ 400000005 1 y3 (Nat.le_refl _) (by decide);obtain⟨R5,e5,y5,a5⟩:=qg8 R4 (BS g.text) 400000006 400000000 y4 (by rw[qc1];exact z2) (by decide);obtain⟨R6,e6,y6,a6⟩:=qg8 R5 ⟨#[41]⟩ 800000006 1 y5 (Nat.le_refl _) (by decide)
 have hR:BS T=R6:=by
  rw[hT,e6,e5,e4,e3,e2,e1,show(⟨#[40]⟩:ByteArray)=BS [40] from rfl,show(⟨#[32]⟩:ByteArray)=BS [32] from rfl,show(⟨#[41]⟩:ByteArray)=BS [41] from rfl,show O=BS O.data.toList from(BS_of O).symm,qg9,qg9,qg9,qg9,qg9,qg9,qp4]
 have eQ:Op.bytesLess (BS g.text).toList (BS f.text).toList=Op.bytesLess g.text f.text:=by rw[qc9,qc9]
 have MD:=j3 HM;rw[hR]at MD;have I7:=j3 HQ;simp only[RF.v]at MD I7 ⊢;have vY:Hid (Below w.heap.size w ((((w.alloc (.cells #[.string f.op,.string (BS f.text),.int .i64 f.cls,.slice f.pa f.pn f.pc,.slice f.ta f.tn f.tc,.slice f.ra f.rn f.rc] 184)).alloc (.cells #[.string g.op,.string (BS g.text),.int .i64 g.cls,.slice g.pa g.pn g.pc,.slice g.ta g.tn g.tc,.slice g.ra g.rn g.rc] 184)).alloc (.cells #[.string ⟨#[]⟩,.string ⟨#[]⟩,.int .i64 0,.slice none 0 0,.slice none 0 0,.slice none 0 0] 184)).alloc (.cells #[.string f.op,.string (BS f.text),.int .i64 f.cls,.slice f.pa f.pn f.pc,.slice f.ta f.tn f.tc,.slice f.ra f.rn f.rc,.string g.op,.string (BS g.text),.int .i64 g.cls,.slice g.pa g.pn g.pc,.slice g.ta g.tn g.tc,.slice g.ra g.rn g.rc] 184))/\w.heap.size+1+1+1<((((w.alloc (.cells #[.string f.op,.string (BS f.text),.int .i64 f.cls,.slice f.pa f.pn f.pc,.slice f.ta f.tn f.tc,.slice f.ra f.rn f.rc] 184)).alloc (.cells #[.string g.op,.string (BS g.text),.int .i64 g.cls,.slice g.pa g.pn g.pc,.slice g.ta g.tn g.tc,.slice g.ra g.rn g.rc] 184)).alloc (.cells #[.string ⟨#[]⟩,.string ⟨#[]⟩,.int .i64 0,.slice none 0 0,.slice none 0 0,.slice none 0 0] 184)).alloc (.cells #[.string f.op,.string (BS f.text),.int .i64 f.cls,.slice f.pa f.pn f.pc,.slice f.ta f.tn f.tc,.slice f.ra f.rn f.rc,.string g.op,.string (BS g.text),.int .i64 g.cls,.slice g.pa g.pn g.pc,.slice g.ta g.tn g.tc,.slice g.ra g.rn g.rc] 184)).heap.size/\∀k,k<12->((((w.alloc (.cells #[.string f.op,.string (BS f.text),.int .i64 f.cls,.slice f.pa f.pn f.pc,.slice f.ta f.tn f.tc,.slice f.ra f.rn f.rc] 184)).alloc (.cells #[.string g.op,.string (BS g.text),.int .i64 g.cls,.slice g.pa g.pn g.pc,.slice g.ta g.tn g.tc,.slice g.ra g.rn g.rc] 184)).alloc (.cells #[.string ⟨#[]⟩,.string ⟨#[]⟩,.int .i64 0,.slice none 0 0,.slice none 0 0,.slice none 0 0] 184)).alloc (.cells #[.string f.op,.string (BS f.text),.int .i64 f.cls,.slice f.pa f.pn f.pc,.slice f.ta f.tn f.tc,.slice f.ra f.rn f.rc,.string g.op,.string (BS g.text),.int .i64 g.cls,.slice g.pa g.pn g.pc,.slice g.ta g.tn g.tc,.slice g.ra g.rn g.rc] 184)).cell? ⟨w.heap.size+1+1+1,k,none⟩=(qa2 f++qa2 g)[k]?):=j3 ⟨(((((Below.refl _ _).alloc (Nat.le_refl _) _).alloc (by simp) _).alloc (by simp<;>omega) _).alloc (by simp<;>omega) _),by simp,λk hk=>by rw[World.cell?_alloc_at _ _ _ _ (by simp)];match k,hk with|0,_=>rfl|1,_=>rfl|2,_=>rfl|3,_=>rfl|4,_=>rfl|5,_=>rfl|6,_=>rfl|7,_=>rfl|8,_=>rfl|9,_=>rfl|10,_=>rfl|11,_=>rfl⟩;clear HM HQ z1 z2 hT hR e1 e2 e3 e4 e5 e6 y1 y2 y3 y4 y5 y6 GC;rcases ho with⟨rfl,rfl,rfl⟩|⟨rfl,rfl,rfl⟩|⟨rfl,rfl,rfl⟩|⟨rfl,rfl,rfl⟩|⟨rfl,rfl,rfl⟩|⟨rfl,rfl,rfl⟩|⟨rfl,rfl,rfl⟩|⟨rfl,rfl,rfl⟩|⟨rfl,rfl,rfl⟩
 all_goals try(rw[Bool.true_and]at A1;rw[A1]at eQ)
 all_goals clear A1
 all_goals go_enter func227,ntmps227
 all_goals go_wp2_with(go_at_call 229;refine(q9 MD _ (q9 vY).1 (q9 vY).2.1 (q9 vY).2.2).mono ?_;rintro e w1⟨A7,r,rfl,hp⟩;have E7:=j3 (j6 (q9 vY).1 A7);obtain⟨F1,F7⟩:=qb0 A7;have r0:w1.cell? ⟨w.heap.size+1+1,0,none⟩=some (.string ⟨#[]⟩):=(F1 _ 0 (by simp<;>omega)).trans (by simp[go_sem]);have r1:w1.cell? ⟨w.heap.size+1+1,1,none⟩=some (.string ⟨#[]⟩):=(F1 _ 1 (by simp<;>omega)).trans (by simp[go_sem]);have r2:w1.cell? ⟨w.heap.size+1+1,2,none⟩=some (.int .i64 0):=(F1 _ 2 (by simp<;>omega)).trans (by simp[go_sem]);have r3:w1.cell? ⟨w.heap.size+1+1,3,none⟩=some (.slice none 0 0):=(F1 _ 3 (by simp<;>omega)).trans (by simp[go_sem]);have r4:w1.cell? ⟨w.heap.size+1+1,4,none⟩=some (.slice none 0 0):=(F1 _ 4 (by simp<;>omega)).trans (by simp[go_sem]);have r5:w1.cell? ⟨w.heap.size+1+1,5,none⟩=some (.slice none 0 0):=(F1 _ 5 (by simp<;>omega)).trans (by simp[go_sem]);have rz:∀i,w1.frozen? ⟨w.heap.size+1+1,i,none⟩=false:=(λi=>(F7 _ i (by simp<;>omega)).trans (by simp[go_sem]));have rl:w.heap.size+1+1<w1.heap.size:=(by have:=A7.size;simp at this;omega);have P0:=j3 hp;clear A7 F1 F7 hp)
 all_goals refine bodyPost_ret (by simp[results,results227,go_sem,r0,r1,r2,r3,r4,r5]<;>rfl) rfl ?_
 all_goals exact q9 I7 r w1 _ (q9 E7) (q9 P0) (qi2 _ _ _ _ _ _ _ _)
end
section
theorem jp0{x y:List UInt8}(h:Op.bytesLess x y=true):Op.bytesLess y x=false:=by
 induction x generalizing y with
 | nil=>cases y<;>simp[Op.bytesLess]at h ⊢
 | cons a x ih=>
  cases y with
  | nil=>simp[Op.bytesLess]at h
  | cons b y=>
   simp only[Op.bytesLess,Bool.or_eq_true,Bool.and_eq_true,decide_eq_true_eq,beq_iff_eq,Bool.or_eq_false_iff,Bool.and_eq_false_iff,decide_eq_false_iff_not]at h ⊢;rcases h with h|⟨rfl,h⟩
   ·exact⟨λe=>UInt8.lt_irrefl _ (UInt8.lt_trans h e),.inl (by simp;rintro rfl;exact UInt8.lt_irrefl _ h)⟩
   ·exact⟨UInt8.lt_irrefl _,.inr (ih h)⟩
theorem jz4{w:World}{f g:RF}{O:ByteArray}(ho:O=⟨#[65,78,68]⟩\/O=⟨#[79,82]⟩\/O=⟨#[61]⟩\/O=⟨#[43]⟩\/O=⟨#[42]⟩)(A1:Op.bytesLess g.text f.text=true)
  {P:RF->World->Prop} (HM:∀W,Below w.heap.size w W->w.heap.size+1+1+1<=W.heap.size->Calls prog 227 #[.string O,g.v,f.v] W λe w'=>Below W.heap.size W w'/\∃r:RF,e=.returned r.v/\P r w')
  {Q:Ending->World->Prop} (HQ:∀r w1 w',Below w.heap.size w w1->P r w1->SixAt (w.heap.size+1+1) w1 w'->Q (.returned r.v) w') :
  Calls prog 227 #[.string O,f.v,g.v] w Q:=by
 have eQ:Op.bytesLess (BS g.text).toList (BS f.text).toList=true:=by rw[qc9,qc9];exact A1
 have MD:=j3 HM;have I7:=j3 HQ;simp only[RF.v]at MD I7 ⊢;have dL:Hid (Below w.heap.size w (((w.alloc (.cells #[.string f.op,.string (BS f.text),.int .i64 f.cls,.slice f.pa f.pn f.pc,.slice f.ta f.tn f.tc,.slice f.ra f.rn f.rc] 184)).alloc (.cells #[.string g.op,.string (BS g.text),.int .i64 g.cls,.slice g.pa g.pn g.pc,.slice g.ta g.tn g.tc,.slice g.ra g.rn g.rc] 184)).alloc (.cells #[.string ⟨#[]⟩,.string ⟨#[]⟩,.int .i64 0,.slice none 0 0,.slice none 0 0,.slice none 0 0] 184))/\w.heap.size+1+1+1<=(((w.alloc (.cells #[.string f.op,.string (BS f.text),.int .i64 f.cls,.slice f.pa f.pn f.pc,.slice f.ta f.tn f.tc,.slice f.ra f.rn f.rc] 184)).alloc (.cells #[.string g.op,.string (BS g.text),.int .i64 g.cls,.slice g.pa g.pn g.pc,.slice g.ta g.tn g.tc,.slice g.ra g.rn g.rc] 184)).alloc (.cells #[.string ⟨#[]⟩,.string ⟨#[]⟩,.int .i64 0,.slice none 0 0,.slice none 0 0,.slice none 0 0] 184)).heap.size):=j3 ⟨((((Below.refl _ _).alloc (Nat.le_refl _) _).alloc (by simp) _).alloc (by simp<;>omega) _),by simp⟩;clear HM HQ A1;rcases ho with rfl|rfl|rfl|rfl|rfl
 all_goals go_enter func227,ntmps227
 all_goals go_wp2_with(go_at_call 227;refine(q9 MD _ (q9 dL).1 (q9 dL).2).mono ?_;rintro e w1⟨A7,r,rfl,hp⟩;have E7:=j3 (j6 (q9 dL).1 A7);obtain⟨F1,F7⟩:=qb0 A7;have r0:w1.cell? ⟨w.heap.size+1+1,0,none⟩=some (.string ⟨#[]⟩):=(F1 _ 0 (by simp<;>omega)).trans (by simp[go_sem]);have r1:w1.cell? ⟨w.heap.size+1+1,1,none⟩=some (.string ⟨#[]⟩):=(F1 _ 1 (by simp<;>omega)).trans (by simp[go_sem]);have r2:w1.cell? ⟨w.heap.size+1+1,2,none⟩=some (.int .i64 0):=(F1 _ 2 (by simp<;>omega)).trans (by simp[go_sem]);have r3:w1.cell? ⟨w.heap.size+1+1,3,none⟩=some (.slice none 0 0):=(F1 _ 3 (by simp<;>omega)).trans (by simp[go_sem]);have r4:w1.cell? ⟨w.heap.size+1+1,4,none⟩=some (.slice none 0 0):=(F1 _ 4 (by simp<;>omega)).trans (by simp[go_sem]);have r5:w1.cell? ⟨w.heap.size+1+1,5,none⟩=some (.slice none 0 0):=(F1 _ 5 (by simp<;>omega)).trans (by simp[go_sem]);have rz:∀i,w1.frozen? ⟨w.heap.size+1+1,i,none⟩=false:=(λi=>(F7 _ i (by simp<;>omega)).trans (by simp[go_sem]));have rl:w.heap.size+1+1<w1.heap.size:=(by have:=A7.size;simp at this;omega);have P0:=j3 hp;clear A7 F1 F7 hp)
 all_goals refine bodyPost_ret (by simp[results,results227,go_sem,r0,r1,r2,r3,r4,r5]<;>rfl) rfl ?_
 all_goals exact q9 I7 r w1 _ (q9 E7) (q9 P0) (qi2 _ _ _ _ _ _ _ _)
def qe8(o:Int):Prop:=o=6\/o=7\/o=8\/o=10\/o=11\/o=16\/o=17\/o=18\/o=19
theorem jf2{N:Nat->Prop}{w:World}{x y:Co}{f g:RF}{o:Int}(ho:qe8 o)(hx:RfAt N w x f)(hy:RfAt N w y g)(bx:qv7 x)(by':qv7 y)(hN:∀b,N b->b<w.heap.size)(A1:(qw2 o&&Op.bytesLess (x9 y) (x9 x))=false):
  Calls prog 227 #[.string (BS (qb7 o)),f.v,g.v] w (qp6 N w (.bin (qa0 o) x y)):=by
 refine jz3 (cl:=ji9 o) (sw:=qw2 o) (T:=x9 (.bin (qa0 o) x y)) (P:=λr w1=>RfAt (λb=>N b\/w.heap.size+1+1+1<=b) w1 (.bin (qa0 o) x y) r) ?_ ?_ ?_ ?_ ?_ ?_ ?_
 ·rcases ho with rfl|rfl|rfl|rfl|rfl|rfl|rfl|rfl|rfl
  ·exact .inl ⟨rfl,rfl,rfl⟩
  ·exact .inr (.inl ⟨rfl,rfl,rfl⟩)
  ·exact .inr (.inr (.inl ⟨rfl,rfl,rfl⟩))
  ·exact .inr (.inr (.inr (.inl ⟨rfl,rfl,rfl⟩)))
  ·exact .inr (.inr (.inr (.inr (.inl ⟨rfl,rfl,rfl⟩))))
  ·exact .inr (.inr (.inr (.inr (.inr (.inl ⟨rfl,rfl,rfl⟩)))))
  ·exact .inr (.inr (.inr (.inr (.inr (.inr (.inl ⟨rfl,rfl,rfl⟩))))))
  ·exact .inr (.inr (.inr (.inr (.inr (.inr (.inr (.inl ⟨rfl,rfl,rfl⟩)))))))
  ·exact .inr (.inr (.inr (.inr (.inr (.inr (.inr (.inr (⟨rfl,rfl,rfl⟩))))))))
 ·rw[hx.text,hy.text];exact A1
 ·rw[hx.text];exact bx.1
 ·rw[hy.text];exact by'.1
 ·rw[hx.text,hy.text]
  rcases ho with rfl|rfl|rfl|rfl|rfl|rfl|rfl|rfl|rfl<;>rfl
 ·intro W hb hz hc
  have hp:=parts2 (N:=λb=>N b\/b=w.heap.size+1+1+1) ((hx.below hb).keep (λ_ _ _=>rfl) (Nat.le_refl _) (λ_ h _=>.inl h)) ((hy.below hb).keep (λ_ _ _=>rfl) (Nat.le_refl _) (λ_ h _=>.inl h)) hz hc;refine(rmade_two o _ rfl (by rcases ho with rfl|rfl|rfl|rfl|rfl|rfl|rfl|rfl|rfl<;>decide) hp (.inr rfl) bx by').mono ?_;rintro e w'⟨h1,r,e1,h2⟩;exact⟨h1,r,e1,h2.keep (λ_ _ _=>rfl) (Nat.le_refl _) (λb h _=>by rcases h with(h|h)|h<;>first|exact .inl h|(right;omega))⟩
 ·intro r w1 w' hb hp hs
  refine⟨hs.bel _ _ (by omega) hb,r,rfl,hs.rf hp (by rintro (h|h);have:=hN _ h;omega;omega) (λb h _=>by rcases h with h|h<;>first|exact .inl h|(right;omega))⟩
theorem qy7{N:Nat->Prop}{w:World}{x y:Co}{f g:RF}{o:Int}(ho:qe8 o)(hx:RfAt N w x f)(hy:RfAt N w y g)(bx:qv7 x)(by':qv7 y)(hN:∀b,N b->b<w.heap.size):
  Calls prog 227 #[.string (BS (qb7 o)),f.v,g.v] w (qp6 N w (j9 o x y)):=by
 unfold j9
 by_cases h:(qw2 o&&Op.bytesLess (x9 y) (x9 x))=true
 ·rw[if_pos h]
  have h':=h;rw[Bool.and_eq_true]at h;refine jz4 (P:=λr w1=>RfAt (λb=>N b\/w.heap.size+1+1+1<=b) w1 (.bin (qa0 o) y x) r) ?_ ?_ ?_ ?_
  ·rcases ho with rfl|rfl|rfl|rfl|rfl|rfl|rfl|rfl|rfl
   ·exact .inl rfl
   ·exact .inr (.inl rfl)
   ·exact .inr (.inr (.inl rfl))
   ·exact absurd h.1 (by decide)
   ·exact absurd h.1 (by decide)
   ·exact .inr (.inr (.inr (.inl rfl)))
   ·exact absurd h.1 (by decide)
   ·exact .inr (.inr (.inr (.inr (rfl))))
   ·exact absurd h.1 (by decide)
  ·rw[hx.text,hy.text];exact h.2
  ·intro W hb hz
   have D7:(qw2 o&&Op.bytesLess (x9 x) (x9 y))=false:=by
    cases hq:Op.bytesLess (x9 x) (x9 y) with
    | false=>exact Bool.and_false _
    | true=>exact absurd h.2 (by rw[jp0 hq];decide)
   refine(jf2 ho (hy.below hb) (hx.below hb) by' bx (λb T9=>Nat.lt_of_lt_of_le (hN b T9) hb.size) D7).mono ?_;rintro e w'⟨h1,r,e1,h2⟩;exact⟨h1,r,e1,h2.keep (λ_ _ _=>rfl) (Nat.le_refl _) (λb h _=>by rcases h with h|h<;>first|exact .inl h|(right;omega))⟩
  ·intro r w1 w' hb hp hs
   refine⟨hs.bel _ _ (by omega) hb,r,rfl,hs.rf hp (by rintro (h|h);have:=hN _ h;omega;omega) (λb h _=>by rcases h with h|h<;>first|exact .inl h|(right;omega))⟩
 ·rw[if_neg h]
  exact jf2 ho hx hy bx by' hN (by simpa using h)
end
end Go.Proofs.YtfkcaldjphakpaaGreatDoor
