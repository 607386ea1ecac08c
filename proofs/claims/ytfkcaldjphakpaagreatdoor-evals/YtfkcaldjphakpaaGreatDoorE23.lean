/- The document's answer: classes. The document's answer: what every node of a term is like. The document's answer: the values of a term's nodes in their order are its values. -/
import Derived.Test.YtfkcaldjphakpaaGreatDoorE22
import Derived.Test.YtfkcaldjphakpaaGreatDoorE21
namespace Go.Proofs.YtfkcaldjphakpaaGreatDoor
open Go.RowKit
section
def ClsPost (rb:Nat) (w:World) (ns:List RN) (er pl:Int) (e:Ending) (w':World):Prop:=
 e=.returned (.tuple #[.int .i64 er,.int .i64 pl])∧TKept rb w w'∧∃g LN cap cs,ClW w rb g LN cap ns cs w'
set_option maxHeartbeats 4000000 in
set_option maxRecDepth 100000 in
theorem qz9 {w:World} {rb g LN cap:Nat} {ns:List RN} (h0:ClW w rb g LN cap ns [] w) (hne:0<ns.length) (hlen:ns.length≤1000) (hf:∀i n,ns[i]?=some n→∃o,NF i n o) :
  Calls Tryz.prog 175 #[.pointer (some ⟨rb,0,none⟩),.int .i64 ((ns.length - 1:Nat):Int)] w (ClsPost rb w ns (ve4 (qq3 [] ns) (ns.length - 1)).1 (ve4 (qq3 [] ns) (ns.length - 1)).2):=by
 obtain ⟨R,hR⟩:∃r,qq3 [] ns=r:=⟨_,rfl⟩
 rw [hR]
 have HR:=v7 hR
 have hLN:LN=ns.length:=by
  obtain ⟨rs,_,ho,_⟩:=h0.nodes
  rw [vt0] at ho
  obtain ⟨_,hx|⟨g',cap',cur,e,_⟩⟩:=ho
  ·cases hx.1
  ·injection e with _ e2 _
 obtain ⟨tp,htp⟩:∃t:Nat,ns.length - 1=t:=⟨_,rfl⟩
 rw [htp]
 have htl:tp<LN:=by omega
 have H0:=v7 h0
 have HF:=v7 hf
 have HLN:=v7 hLN
 have HNE:=v7 hlen
 clear h0 hR hf hLN htp hlen hne
 go_enter Tryz.func175,Tryz.ntmps175
 go_wp2_with fail
 go_loopw [6] (fun i wr=>∃cs:List Int,cs.length≤LN∧i=.int .i64 (cs.length:Int)∧Hid (R=qq3 cs (ns.drop cs.length))∧Hid (ClW w rb g LN cap ns cs wr)) (fun i _=>LN - (intOf i).toNat)
 case atStart=>exact ⟨[],Nat.zero_le _,rfl,v7 (by rw [List.length_nil,List.drop_zero,q9 HR]),H0⟩
 case round=>
  obtain ⟨cs,hcl,rfl,HRc,HC⟩:=hrel
  obtain ⟨i,hi⟩:∃i,cs.length=i:=⟨_,rfl⟩
  have HI:=v7 hi
  rw [hi] at hcl HRc ⊢
  clear hi
  have c0:=(q9 HC).c0
  have hlt:=(q9 HC).lt
  have hmx:=q9 HNE
  have hLNe:=q9 HLN
  have hb1000:LN≤1000:=by omega
  clear hmx hLNe
  by_cases hil:i<LN
  ·have hil':(i:Int)<(LN:Int):=by omega
   have hi0:(0:Int)≤(i:Int):=by omega
   obtain ⟨n,hn⟩:∃n,ns[cs.length]?=some n:=⟨_,List.getElem?_eq_getElem (by have:=q9 HI;have:=q9 HLN;omega)⟩
   obtain ⟨o,hfo⟩:=q9 HF _ n hn
   have hn':(qp1 ns cs)[cs.length]?=some n:=by rw [qs3,hn];simp
   obtain ⟨hLN2,iv,lv,hiv,hlv,hc9⟩:=(q9 HC).nodes.cells hn'
   clear hLN2
   rw [q9 HI] at hc9
   have e0:wr.cell? ⟨g,i * 9,none⟩=some (.string (BS (qc6 o))):=by have:=hc9 0 (by omega);rw [Nat.add_zero] at this;rw [←hfo.op];exact this
   have e1:wr.cell? ⟨g,i * 9+1,none⟩=some (.int .i64 n.at'):=hc9 1 (by omega)
   have e2:wr.cell? ⟨g,i * 9+2,none⟩=some iv:=hc9 2 (by omega)
   have e3:wr.cell? ⟨g,i * 9+3,none⟩=some (.string (BS n.str)):=hc9 3 (by omega)
   have e4:wr.cell? ⟨g,i * 9+4,none⟩=some (.string (BS n.esc)):=hc9 4 (by omega)
   have e5:wr.cell? ⟨g,i * 9+5,none⟩=some lv:=hc9 5 (by omega)
   have e6:wr.cell? ⟨g,i * 9+6,none⟩=some (.int .i64 n.num):=hc9 6 (by omega)
   have e7:wr.cell? ⟨g,i * 9+7,none⟩=some (.bool n.neg):=hc9 7 (by omega)
   have e8:wr.cell? ⟨g,i * 9+8,none⟩=some (.int .i64 n.cls):=hc9 8 (by omega)
   obtain ⟨hS,hSK,hgl,hgz⟩:=(q9 HC).set hn (hsc o)
   rw [q9 HI] at hS hSK
   obtain ⟨wt,hwt⟩:∃x,wnt o=x:=⟨_,rfl⟩
   obtain ⟨hs,hhs⟩:∃x,hsc o=x:=⟨_,rfl⟩
   have HWN:Hid (∀w,Calls Tryz.prog 217 #[.string (BS (qc6 o))] w fun e w'=>e=.returned (.tuple #[.int .i64 wt,.int .i64 hs])∧w'=w):=v7 fun w=>by rw [←hwt,←hhs];exact vy0 o hfo.o0 hfo.o23 w
   rw [hhs] at hS hSK
   have HS:=v7 hS
   have HIV2:=v7 (hiv.kept hSK)
   obtain ⟨w8,hw8⟩:=eq_words o hfo.o0 hfo.o23
   have HFO:=v7 hfo
   have HN:=v7 hn
   have HWT:=v7 hwt
   have HHS:=v7 hhs
   obtain ⟨ia,ic,rfl⟩:=hiv.form
   obtain ⟨la,lc,rfl⟩:=hlv.form
   have nr:¬rb=wr.heap.size:=by omega
   have ng:¬g=wr.heap.size:=by omega
   obtain ⟨lI,hlI⟩:∃x,(qv6 n.ins).length=x:=⟨_,rfl⟩
   obtain ⟨lT,hlT⟩:∃x,(x9 n.texts).length=x:=⟨_,rfl⟩
   rw [hlI] at e2 HIV2
   rw [hlT] at e5
   have HLI:Hid (n.ins.length=lI):=v7 (by rw [←hlI];simp [qv6])
   have HAT:=v7 e1
   obtain ⟨W,hW⟩:∃W:World,W=(wr.setCell ⟨g,i * 9+8,none⟩ (.int .i64 hs)).alloc (.cells #[.string (BS (qc6 o)),.int .i64 n.at',.slice ia lI ic,.string (BS n.str),.string (BS n.esc),.slice la lT lc,.int .i64 n.num,.bool n.neg,.int .i64 n.cls] 241):=⟨_,rfl⟩
   have hWb:Below (wr.setCell ⟨g,i * 9+8,none⟩ (.int .i64 hs)).heap.size (wr.setCell ⟨g,i * 9+8,none⟩ (.int .i64 hs)) W:=hW ▸ (Below.refl _ _).alloc (Nat.le_refl _) _
   have HCW:=v7 ((q9 HS).below hWb)
   have HIW:=v7 ((q9 HIV2).kept (TKept.of_below hWb (q9 HS).lt))
   have hcp:∀k,W.cell? ⟨wr.heap.size,k,none⟩=#[.string (BS (qc6 o)),.int .i64 n.at',.slice ia lI ic,.string (BS n.str),.string (BS n.esc),.slice la lT lc,.int .i64 n.num,.bool n.neg,.int .i64 n.cls][k]?:=fun k=>by rw [hW,World.cell?_alloc_at _ _ _ _ (by simp)]
   have hWz:W.heap.size=wr.heap.size+1:=by rw [hW];simp
   have HW:=v7 hW
   have HWz:=v7 hWz
   have HCP:=v7 hcp
   clear hn hfo hn' hiv hlv hc9 hS hSK hwt hhs hlI hlT hWb hcp hW hWz
   go_wp2_with (go_at_call 217;refine (q9 HWN _).mono ?_;rintro e w1 ⟨rfl,hw1⟩;subst w1)
   rw [←q9 HW]
   clear e0 e1 e2 e3 e4 e5 e6 e7 e8
   obtain ⟨wo,rfl⟩:∃wo:World,wo=wr:=⟨_,rfl⟩
   go_loopw [10] (fun k wq=>∃m:Nat,m≤lI∧k=.int .i64 m∧Hid (∀j q,j<m→n.ins[j]?=some q→qh5 wt (qh4 cs q)=false)∧Hid (Below W.heap.size W wq)) (fun k _=>lI - (intOf k).toNat)
   case atStart=>exact ⟨0,Nat.zero_le _,rfl,v7 (fun j q hj=>absurd hj (by omega)),v7 (Below.refl _ _)⟩
   case round=>
    obtain ⟨m,hm,rfl,HM,BM⟩:=hrel
    obtain ⟨hcb,hfb⟩:=v9 (q9 BM)
    have hCq:=(q9 HCW).below (q9 BM)
    have d0:wr.cell? ⟨rb,0,none⟩=some (.slice (some ⟨g,0,none⟩) LN cap):=hCq.c0
    have hzq:=(q9 BM).size
    have f0:wr.cell? ⟨wo.heap.size,0,none⟩=some (.string (BS (qc6 o))):=(hcb _ 0 (by have:=q9 HWz;omega)).trans (q9 HCP 0)
    have f1:wr.cell? ⟨wo.heap.size,1,none⟩=some (.int .i64 n.at'):=(hcb _ 1 (by have:=q9 HWz;omega)).trans (q9 HCP 1)
    have f2:wr.cell? ⟨wo.heap.size,2,none⟩=some (.slice ia lI ic):=(hcb _ 2 (by have:=q9 HWz;omega)).trans (q9 HCP 2)
    have hIq:=(q9 HIW).kept (TKept.of_below (q9 BM) (q9 HCW).lt)
    have HCQ:=v7 hCq
    have hl3:lI≤3:=by have:=q9 HLI;have:=(q9 HFO).few;omega
    by_cases hml:m<lI
    ·obtain ⟨q,hq⟩:∃q,n.ins[m]?=some q:=⟨_,List.getElem?_eq_getElem (by have:=q9 HLI;omega)⟩
     have hqi:q<i:=by have:=(q9 HFO).ins q (List.mem_of_getElem? hq);rwa [q9 HI] at this
     obtain ⟨q0,ca,hia,hqc⟩:=hIq.get (k:=m) (u:=.int .i64 (q:Int)) (by simp [qv6,hq])
     injection hia with hia hz2 hz3
     clear hz2 hz3
     subst hia
     have hcl:=hCq.cls (k:=q) (by simp;have:=q9 HI;omega) (by simp;have:=q9 HI;have:=q9 HLN;omega)
     rw [show qh4 (cs++[hs]) q=qh4 cs q by unfold qh4;rw [List.getD_eq_getElem?_getD,List.getD_eq_getElem?_getD,List.getElem?_append_left (by have:=q9 HI;omega)]] at hcl
     obtain ⟨c,hc⟩:∃c,qh4 cs q=c:=⟨_,rfl⟩
     rw [hc] at hcl
     have HM2:Hid (qh5 wt c=false→∀j r,j<m+1→n.ins[j]?=some r→qh5 wt (qh4 cs r)=false):=v7 fun hf j r hj hr=>by
      by_cases hjm:j=m
      ·subst hjm;rw [hq] at hr;injection hr with hr;subst hr;rw [hc];exact hf
      ·exact q9 HM j r (by omega) hr
     have HE:Hid (qh5 wt c=true→ve4 R tp=(4,n.at')):=v7 fun hf=>by
      have hb:vm4 cs n=true:=by
       rw [vt2 (q9 HFO),Bool.or_eq_true]
       left
       rw [List.any_eq_true]
       exact ⟨q,List.mem_of_getElem? hq,by rw [q9 HWT,hc];exact hf⟩
      rw [q9 HRc,←q9 HI,vc9 (q9 HN),if_pos hb];rfl
     have hm0:(0:Int)≤(m:Int):=by omega
     have hm1:(m:Int)<(lI:Int):=by omega
     have hq1:(0:Int)≤(q:Int):=by omega
     have hq2:(q:Int)<(LN:Int):=by omega
     clear hq hc hcb hfb hCq hIq HM HCW HIW HRc HN
     by_cases hw:0≤wt
     ·by_cases hc0:c=0
      ·subst hc0
       go_wp2_with fail
       go_quiet (fail)
       go_wp2_with fail
       go_roundw
       case rel=>exact ⟨m+1,by omega,by go_num,v7 (q9 HM2 (by unfold qh5;simp)),v7 (Go.below_drewN (q9 BM) _)⟩
       case measure=>simp [intOf];omega
      ·by_cases hcw:c=wt
       ·have b1:(c != 0)=true:=by simpa using hc0
        have b2:(c != wt)=false:=by rw [hcw];simp
        go_wp2_with fail
        go_quiet (fail)
        go_wp2_with fail
        go_roundw
        case rel=>exact ⟨m+1,by omega,by go_num,v7 (q9 HM2 (by unfold qh5;rw [b2];simp)),v7 (Go.below_drewN (q9 BM) _)⟩
        case measure=>simp [intOf];omega
       ·have b1:(c != 0)=true:=by simpa using hc0
        have b2:(c != wt)=true:=by simpa using hcw
        have HE2:=v7 (q9 HE (by unfold qh5;rw [b1,b2,decide_eq_true hw];rfl))
        clear HE HM2
        go_wp2_with fail
        go_quiet (fail)
        go_wp2_with fail
        go_quiet (fail)
        go_wp2_with fail
        have hCF:=fun a b=>(q9 HCQ).below (Go.below_drewN (Go.below_drewN (Below.refl wr.heap.size wr) a) b)
        exact bodyPost_ret (by simp [results,Tryz.results175,go_sem];rfl) rfl ⟨by rw [q9 HE2],(hCF _ _).kept,g,LN,cap,_,hCF _ _⟩
     ·go_wp2_with fail
      go_quiet (fail)
      go_wp2_with fail
      go_roundw
      case rel=>exact ⟨m+1,by omega,by go_num,v7 (q9 HM2 (by unfold qh5;rw [decide_eq_false (by omega)];simp)),v7 (Go.below_drewN (q9 BM) _)⟩
      case measure=>simp [intOf];omega
    ·have hml':¬(m:Int)<(lI:Int):=by omega
     have hmE:m=lI:=by omega
     have HALL:Hid (∀q∈n.ins,qh5 wt (qh4 cs q)=false):=v7 fun q hq=>by
      obtain ⟨j,hj⟩:=List.getElem?_of_mem hq
      exact q9 HM j q (by have:=(List.getElem?_eq_some_iff.1 hj).1;have:=q9 HLI;omega) hj
     have HANY:Hid ((n.ins.any fun k=>qh5 (wnt o) (qh4 cs k))=false):=v7 (by
      rw [List.any_eq_false]
      intro q hq
      rw [q9 HWT,q9 HALL q hq];simp)
     have HNEXT:Hid (vm4 cs n=false→R=qq3 (cs++[hs]) (ns.drop (cs++[hs]).length)):=v7 fun hb=>by
      rw [q9 HRc,←q9 HI,vc9 (q9 HN),if_neg (by rw [hb];simp),(q9 HFO).op,qw2 (q9 HFO).o0 (q9 HFO).o23,q9 HHS,List.length_append];rfl
     have HEB:Hid (vm4 cs n=true→ve4 R tp=(4,n.at')):=v7 fun hb=>by
      rw [q9 HRc,←q9 HI,vc9 (q9 HN),if_pos hb];rfl
     have HLE:Hid ((cs++[hs]).length=i+1):=v7 (by rw [List.length_append,q9 HI];rfl)
     clear hcb hfb hCq HM HCW HRc HN hmE
     by_cases h8:o=8∨o=9
     ·obtain ⟨a,b,hab⟩:=(q9 HFO).two h8
      have hl2:lI=2:=by have:=q9 HLI;rw [hab] at this;exact this.symm
      have hai:a<i:=by have:=(q9 HFO).ins a (by rw [hab];simp);rwa [q9 HI] at this
      have hbi:b<i:=by have:=(q9 HFO).ins b (by rw [hab];simp);rwa [q9 HI] at this
      obtain ⟨q0,ca,hia,hqa⟩:=hIq.get (k:=0) (u:=.int .i64 (a:Int)) (by simp [qv6,hab])
      injection hia with hia hz2 hz3
      clear hz2 hz3
      subst hia
      obtain ⟨q1,cb,hib,hqb⟩:=hIq.get (k:=1) (u:=.int .i64 (b:Int)) (by simp [qv6,hab])
      injection hib with hib hz2 hz3
      injection hib with hib
      injection hib with hib
      clear hz2 hz3
      subst hib
      have hka:=(q9 HCQ).cls (k:=a) (by simp;have:=q9 HI;omega) (by simp;have:=q9 HI;have:=q9 HLN;omega)
      have hkb:=(q9 HCQ).cls (k:=b) (by simp;have:=q9 HI;omega) (by simp;have:=q9 HI;have:=q9 HLN;omega)
      have hcut:∀q,q<i→qh4 (cs++[hs]) q=qh4 cs q:=fun q hq=>by
       unfold qh4
       rw [List.getD_eq_getElem?_getD,List.getD_eq_getElem?_getD,List.getElem?_append_left (by have:=q9 HI;omega)]
      rw [hcut a hai] at hka
      rw [hcut b hbi] at hkb
      have hbad:vm4 cs n=(qh4 cs a != qh4 cs b&&qh4 cs a != 0&&qh4 cs b != 0):=by
       rw [vt2 (q9 HFO),q9 HANY,Bool.false_or,hab]
       rw [show (o==8||o==9)=true by rcases h8 with e|e<;>rw [e]<;>rfl,Bool.true_and]
       rfl
      obtain ⟨x,hx⟩:∃x,qh4 cs a=x:=⟨_,rfl⟩
      obtain ⟨y,hy⟩:∃y,qh4 cs b=y:=⟨_,rfl⟩
      rw [hx] at hka hbad
      rw [hy] at hkb hbad
      have HBD:=v7 hbad
      have ha1:(0:Int)≤(a:Int):=by omega
      have hb1:(0:Int)≤(b:Int):=by omega
      have ha2:(a:Int)<(LN:Int):=by omega
      have hb2:(b:Int)<(LN:Int):=by omega
      have hCF:=fun u=>(q9 HCQ).below (Go.below_drewN (Below.refl wr.heap.size wr) u)
      have hz:((BS (qc6 o)).toList==[61])=true∨(((BS (qc6 o)).toList==[61])=false∧((BS (qc6 o)).toList==[60,62])=true):=by
       rcases h8 with e|e
       ·left;rw [w8,e];rfl
       ·right;exact ⟨by rw [w8,e];rfl,by rw [hw8,e];rfl⟩
      subst hl2
      have HCFX:=v7 hCF
      have HCGX:=v7 (fun u v=>(q9 HCQ).below (Go.below_drewN (Go.below_drewN (Below.refl wr.heap.size wr) u) v))
      have hcomb:(x != y)=false∨((x != y)=true∧(x != 0)=false)∨((x != y)=true∧(x != 0)=true∧(y != 0)=false)∨((x != y)=true∧(x != 0)=true∧(y != 0)=true):=by
       cases (x != y)<;>cases (x != 0)<;>cases (y != 0)<;>simp
      clear hx hy hbad hcut hIq w8 hw8 hab HANY HALL hCF h8
      rcases hcomb with x1|⟨x1,x2⟩|⟨x1,x2,x3⟩|⟨x1,x2,x3⟩
      ·rcases hz with z8|⟨z8,z9⟩
       all_goals
        have HNX:=v7 (q9 HNEXT (by rw [q9 HBD,x1];simp))
        clear HNEXT HEB HBD
        go_wp2_with fail
        go_quiet (fail)
        go_wp2_with fail
        go_quiet (fail)
        go_wp2_with fail
        go_roundw
        case rel=>exact ⟨cs++[hs],by rw [q9 HLE];omega,by rw [q9 HLE];go_num,HNX,v7 (q9 HCFX _)⟩
        case measure=>simp [intOf];omega
      ·rcases hz with z8|⟨z8,z9⟩
       all_goals
        have HNX:=v7 (q9 HNEXT (by rw [q9 HBD,x1,x2];simp))
        clear HNEXT HEB HBD
        go_wp2_with fail
        go_quiet (fail)
        go_wp2_with fail
        go_quiet (fail)
        go_wp2_with fail
        go_roundw
        case rel=>exact ⟨cs++[hs],by rw [q9 HLE];omega,by rw [q9 HLE];go_num,HNX,v7 (q9 HCFX _)⟩
        case measure=>simp [intOf];omega
      ·rcases hz with z8|⟨z8,z9⟩
       all_goals
        have HNX:=v7 (q9 HNEXT (by rw [q9 HBD,x1,x2,x3];simp))
        clear HNEXT HEB HBD
        go_wp2_with fail
        go_quiet (fail)
        go_wp2_with fail
        go_quiet (fail)
        go_wp2_with fail
        go_roundw
        case rel=>exact ⟨cs++[hs],by rw [q9 HLE];omega,by rw [q9 HLE];go_num,HNX,v7 (q9 HCFX _)⟩
        case measure=>simp [intOf];omega
      ·rcases hz with z8|⟨z8,z9⟩
       all_goals
        have HE2:=v7 (q9 HEB (by rw [q9 HBD,x1,x2,x3];rfl))
        clear HNEXT HEB HBD
        go_wp2_with fail
        go_quiet (fail)
        go_wp2_with fail
        go_quiet (fail)
        go_wp2_with fail
        go_quiet (fail)
        go_wp2_with fail
        exact bodyPost_ret (by simp [results,Tryz.results175,go_sem];rfl) rfl ⟨by rw [q9 HE2],(q9 HCGX _ _).kept,g,LN,cap,_,q9 HCGX _ _⟩
     ·have y8:((BS (qc6 o)).toList==[61])=false:=by rw [w8,beq_eq_false_iff_ne];omega
      have y9:((BS (qc6 o)).toList==[60,62])=false:=by rw [hw8,beq_eq_false_iff_ne];omega
      have hb:vm4 cs n=false:=by
       rw [vt2 (q9 HFO),q9 HANY,Bool.false_or,Bool.and_eq_false_iff]
       left
       rw [Bool.or_eq_false_iff,beq_eq_false_iff_ne,beq_eq_false_iff_ne];omega
      have HNX:=v7 (q9 HNEXT hb)
      clear hIq w8 hw8 hb HNEXT HEB h8
      go_wp2_with fail
      go_roundw
      case rel=>exact ⟨cs++[hs],by rw [q9 HLE];omega,by rw [q9 HLE];go_num,HNX,HCQ⟩
      case measure=>simp [intOf];omega
  ·have hil':¬(i:Int)<(LN:Int):=by omega
   have hiL:i=LN:=by omega
   have ht0:(0:Int)≤(tp:Int):=by omega
   have htl':(tp:Int)<(LN:Int):=by omega
   have ct:=(q9 HC).cls (k:=tp) (by have:=q9 HI;omega) (by have:=q9 HI;have:=q9 HLN;omega)
   obtain ⟨c,hc⟩:∃c,qh4 cs tp=c:=⟨_,rfl⟩
   rw [hc] at ct
   have HE:Hid (ve4 R tp=if c≠0∧c≠1 then (4,0) else (0,0)):=v7 (by
    rw [q9 HRc,List.drop_of_length_le (by have:=q9 HLN;omega),←hc];rfl)
   clear hc
   by_cases h1:c=0
   ·go_wp2_with fail
    exact bodyPost_ret (by simp [results,Tryz.results175,go_sem];rfl) rfl ⟨by rw [q9 HE,if_neg (by omega)],(q9 HC).kept,g,LN,cap,cs,q9 HC⟩
   ·by_cases h2:c=1
    ·go_wp2_with fail
     exact bodyPost_ret (by simp [results,Tryz.results175,go_sem];rfl) rfl ⟨by rw [q9 HE,if_neg (by omega)],(q9 HC).kept,g,LN,cap,cs,q9 HC⟩
    ·have b1:(c != 0)=true:=by simpa using h1
     have b2:(c != 1)=true:=by simpa using h2
     go_wp2_with fail
     exact bodyPost_ret (by simp [results,Tryz.results175,go_sem];rfl) rfl ⟨by rw [q9 HE,if_pos ⟨h1,h2⟩],(q9 HC).kept,g,LN,cap,cs,q9 HC⟩
end
section
theorem vb8 {l:List RN} {n m:RN} {i:Nat} (h:(l++[n])[i]?=some m):(i<l.length∧l[i]?=some m)∨(i=l.length∧n=m):=by
 by_cases hi:i<l.length
 ·rw [List.getElem?_append_left hi] at h;exact .inl ⟨hi,h⟩
 ·right
  have hlt:=(List.getElem?_eq_some_iff.1 h).1
  simp at hlt
  obtain rfl:i=l.length:=by omega
  exact ⟨rfl,by simpa using h⟩
theorem vc3 {l k:List RN} {m:RN} {i:Nat} (h:(l++k)[i]?=some m):(i<l.length∧l[i]?=some m)∨(l.length≤i∧k[i - l.length]?=some m):=by
 by_cases hi:i<l.length
 ·rw [List.getElem?_append_left hi] at h;exact .inl ⟨hi,h⟩
 ·rw [List.getElem?_append_right (by omega)] at h;exact .inr ⟨by omega,h⟩
theorem qy3 {i:Nat} {p:Pay} {ins:List Nat} {neg:Bool} (h0:0≤p.op) (h23:p.op≤23) (hi:∀k∈ins,k<i) (h2:p.op=8∨p.op=9→∃a b,ins=[a,b]) (hl:ins.length≤3):∃o,NF i (qi3 p ins neg) o:=⟨p.op,h0,h23,rfl,hi,h2,hl⟩
theorem vw0:∀{t:Ast} {off:Nat} {l:List RN},Flat t off l→ShA t→∀i n,l[i]?=some n→∃o,NF (off+i) n o:=by
 intro t off l h
 induction h with
 | leaf p off=>
  intro hs i n hi
  rcases i with _|i
  ·obtain rfl:qi3 p [] false=n:=by simpa using hi
   exact qy3 hs.1 (by have:=hs.2;omega) (by simp) (by have:=hs.2;omega) (by simp)
  ·simp at hi
 | @un p x off l hx ih=>
  intro hs i n hi
  have hp:=hx.pos
  have ho:=hs.1
  rcases vb8 hi with ⟨h1,h2⟩|⟨rfl,rfl⟩
  ·exact ih hs.2.2.2 i n h2
  ·exact qy3 (by omega) (by omega) (by simp;omega) (by omega) (by simp)
 | @bin p x y off l k hx hy ihx ihy=>
  intro hs i n hi
  have hp:=hx.pos
  have hq:=hy.pos
  have ho:=hs.1
  rcases vb8 hi with ⟨h1,h2⟩|⟨rfl,rfl⟩
  ·rcases vc3 h2 with ⟨h3,h4⟩|⟨h3,h4⟩
   ·exact ihx hs.2.1 i n h4
   ·have:=ihy hs.2.2 (i - l.length) n h4
    rwa [show off+l.length+(i - l.length)=off+i by omega] at this
  ·exact qy3 (by omega) (by omega) (by simp;omega) (fun _=>⟨_,_,rfl⟩) (by simp)
 | @tri p x y z off l k r hx hy hz ihx ihy ihz=>
  intro hs i n hi
  have hp:=hx.pos
  have hq:=hy.pos
  have hr:=hz.pos
  have ho:=hs.1
  rcases vb8 hi with ⟨h1,h2⟩|⟨rfl,rfl⟩
  ·rcases vc3 h2 with ⟨h3,h4⟩|⟨h3,h4⟩
   ·rcases vc3 h4 with ⟨h5,h6⟩|⟨h5,h6⟩
    ·exact ihx hs.2.1 i n h6
    ·have:=ihy hs.2.2.1 (i - l.length) n h6
     rwa [show off+l.length+(i - l.length)=off+i by omega] at this
   ·have:=ihz hs.2.2.2 (i - (l++k).length) n h4
    simp only [List.length_append] at h3
    rwa [show off+l.length+k.length+(i - (l++k).length)=off+i by simp;omega] at this
  ·exact qy3 (by omega) (by omega) (by simp;omega) (by omega) (by simp)
 | @neg1 pl q x off l hq hx ih=>
  intro hs i n hi
  have hp:=hx.pos
  obtain ⟨_,_,_,hs⟩:=hs
  rcases vb8 hi with ⟨h1,h2⟩|⟨rfl,rfl⟩
  ·exact ih hs.2.2.2 i n h2
  ·exact qy3 (by omega) (by omega) (by simp;omega) (by omega) (by simp)
 | @neg3 pl q x y z off l k r hq hx hy hz ihx ihy ihz=>
  intro hs i n hi
  have hp:=hx.pos
  have hq':=hy.pos
  have hr:=hz.pos
  obtain ⟨_,_,_,hs⟩:=hs
  rcases vb8 hi with ⟨h1,h2⟩|⟨rfl,rfl⟩
  ·rcases vc3 h2 with ⟨h3,h4⟩|⟨h3,h4⟩
   ·rcases vc3 h4 with ⟨h5,h6⟩|⟨h5,h6⟩
    ·exact ihx hs.2.1 i n h6
    ·have:=ihy hs.2.2.1 (i - l.length) n h6
     rwa [show off+l.length+(i - l.length)=off+i by omega] at this
   ·have:=ihz hs.2.2.2 (i - (l++k).length) n h4
    simp only [List.length_append] at h3
    rwa [show off+l.length+k.length+(i - (l++k).length)=off+i by simp;omega] at this
  ·exact qy3 (by omega) (by omega) (by simp;omega) (by omega) (by simp)
theorem vr7 {s:ByteArray} {t:Ast} {st:St} (h:(lvl s 12).E (v6 s st0)=.ok t st):ShA t:=by
 obtain ⟨L,hL⟩:=vz6 _ s.data.toList (Nat.le_refl _)
 have hst:Str s (v6 s st0) L:=vs1 hL st0 (Nat.zero_le _) (List.drop_zero)
 have hfi:=x8 s st0 (Nat.zero_le _)
 have hsim:=(sim_lvl s 12).E (v6 s st0) ⟨L,0⟩ hfi hst rfl
 rcases hsim.cases with ⟨t1,st1,ts,e1,e2,_⟩|⟨en,pl,e1,e2⟩
 ·rw [e1] at h
  injection h with h _
  subst h
  exact sh_erase t1 ((nd_lvl 12).E _ _ _ e2).1
 ·rw [e1] at h;cases h
theorem cls_end {t:Ast} {ns:List RN} (h:Flat t 0 ns) (hs:ShA t):ve4 (qq3 [] ns) (ns.length - 1)=match chkR (qc8 t) with
  | none=>(0,0)
  | some q=>(4,q):=by
 have hc:=cls_flat h hs [] rfl
 cases hcl:qc8 t with
 | err q=>
  rw [hcl] at hc
  have hc:qq3 [] ns=.inl q:=hc
  rw [hc];rfl
 | ok c=>
  rw [hcl] at hc
  obtain ⟨ds,h1,h2,h3⟩:=hc
  rw [h1,List.nil_append]
  show (if ds.getD (ns.length - 1) 0≠0∧ds.getD (ns.length - 1) 0≠1 then ((4:Int),(0:Int)) else (0,0))=_
  rw [h3]
  rcases c4 (qv1 t c hcl) with rfl|rfl|rfl|rfl<;>rfl
theorem RT.clw {w:World} {rb:Nat} {s:ByteArray} {ns:List RN} {j:Nat} {st:St} (h:RT w rb s ns j st) (hne:0<ns.length):∃g LN cap,ClW w rb g LN cap ns [] w:=by
 obtain ⟨nv,hT,hN,_⟩:=h
 obtain ⟨g,cap,rfl,_⟩:=hN.opAt (i:=0) (n:=ns[0]) (List.getElem?_eq_getElem hne)
 exact ⟨g,ns.length,cap,hT.c0,by rw [vt0];exact hN,TKept.refl rb w,hT.lt⟩
theorem RE.c9 {w:World} {rb:Nat} {s:ByteArray} {en pl:Int} {op m:Nat} (h:RE w rb s en pl op m):w.cell? ⟨rb,9,none⟩=some (.int .i64 pl):=by obtain ⟨nv,a,ns,h,_⟩:=h;exact h.c9
end
section
def payOf (n:RN):Pay:=⟨vw1 n.op,n.at',n.num,n.str,n.esc,n.texts⟩
theorem qw3 {p:Pay} {ins:List Nat} {neg:Bool} (h0:0≤p.op) (h23:p.op≤23):payOf (qi3 p ins neg)=p:=by
 show (⟨vw1 (qc6 p.op),p.place,p.num,p.str,p.esc,p.texts⟩:Pay)=p
 rw [qw2 h0 h23]
def vh8 (ps:List Pr) (vs:List V) (n:RN):V:=if n.neg=true then qz7 (ofN ps (payOf n) (n.ins.map fun k=>vs.getD k nV)) else ofN ps (payOf n) (n.ins.map fun k=>vs.getD k nV)
def qu9 (ps:List Pr):List V→List RN→List V
 | vs,[]=>vs
 | vs,n::t=>qu9 ps (vs++[vh8 ps vs n]) t
theorem qx1 (ps:List Pr) (vs:List V) (l k:List RN):qu9 ps vs (l++k)=qu9 ps (qu9 ps vs l) k:=by
 induction l generalizing vs with
 | nil=>rfl
 | cons n t ih=>rw [List.cons_append,qu9,qu9];exact ih _
theorem runV_len (ps:List Pr):∀(l:List RN) (vs:List V),(qu9 ps vs l).length=vs.length+l.length:=by
 intro l
 induction l with
 | nil=>intro vs;rfl
 | cons n t ih=>intro vs;rw [qu9,ih];simp;omega
theorem nodeV_cls (ps:List Pr) (vs:List V) (n:RN) (c:Int):vh8 ps vs { n with cls:=c }=vh8 ps vs n:=rfl
def VEnd (ps:List Pr) (vs:List V) (l:List RN) (x:V):Prop:=∃ds,qu9 ps vs l=vs++ds∧ds.length=l.length∧ds.getD (l.length - 1) nV=x
theorem vh1 {vs ds es:List V} {k:Nat} (h:vs.length≤k) (h2:k<vs.length+ds.length):(vs++ds++es).getD k nV=ds.getD (k - vs.length) nV:=by
 rw [List.getD_eq_getElem?_getD,List.getD_eq_getElem?_getD,List.append_assoc,List.getElem?_append_right h,List.getElem?_append_left (by omega)]
theorem vh0 {vs ds:List V} {k:Nat} (h:vs.length≤k) (h2:k<vs.length+ds.length):(vs++ds).getD k nV=ds.getD (k - vs.length) nV:=by
 have:=vh1 (vs:=vs) (ds:=ds) (es:=[]) h h2
 rwa [List.append_nil] at this
theorem lastV (l:List V) (v:V):(l++[v]).getD l.length nV=v:=by simp
theorem qx6 {ps:List Pr} {vs ds:List V} {l:List RN} {n:RN} {x:V} (h:qu9 ps vs l=vs++ds) (hd:ds.length=l.length) (hx:vh8 ps (vs++ds) n=x):VEnd ps vs (l++[n]) x:=by
 refine ⟨ds++[x], ?_,by simp [hd], ?_⟩
 ·rw [qx1,h,qu9,qu9,hx,List.append_assoc]
 ·rw [show (l++[n]).length - 1=ds.length by simp [hd],lastV]
section
variable {ps:List Pr} {vs:List V} {off:Nat} {p:Pay} {neg:Bool}
theorem val_un1 {l:List RN} {x:V} (hv:vs.length=off) (hl:0<l.length) (h0:0≤p.op) (h23:p.op≤23) (hx:VEnd ps vs l x):VEnd ps vs (l++[qi3 p [off+l.length - 1] neg]) (if neg=true then qz7 (ofN ps p [x]) else ofN ps p [x]):=by
 obtain ⟨ds,h1,h2,h3⟩:=hx
 refine qx6 h1 h2 ?_
 have hi:(vs++ds).getD (off+l.length - 1) nV=x:=by rw [vh0 (by omega) (by omega),show off+l.length - 1 - vs.length=l.length - 1 by omega];exact h3
 unfold vh8
 rw [qw3 h0 h23]
 show (if neg=true then qz7 (ofN ps p [(vs++ds).getD (off+l.length - 1) nV]) else ofN ps p [(vs++ds).getD (off+l.length - 1) nV])=_
 rw [hi]
theorem val_bin1 {l k:List RN} {x y:V} (hv:vs.length=off) (hl:0<l.length) (hkl:0<k.length) (h0:0≤p.op) (h23:p.op≤23) (hx:VEnd ps vs l x) (hy:∀ds:List V,ds.length=l.length→VEnd ps (vs++ds) k y):VEnd ps vs (l++k++[qi3 p [off+l.length - 1,off+l.length+k.length - 1] false]) (ofN ps p [x,y]):=by
 obtain ⟨ds,h1,h2,h3⟩:=hx
 obtain ⟨es,g1,g2,g3⟩:=hy ds h2
 have hlk:qu9 ps vs (l++k)=vs++(ds++es):=by rw [qx1,h1,g1,List.append_assoc]
 refine qx6 hlk (by simp [h2,g2]) ?_
 have hi:(vs++(ds++es)).getD (off+l.length - 1) nV=x:=by rw [←List.append_assoc,vh1 (by omega) (by omega),show off+l.length - 1 - vs.length=l.length - 1 by omega];exact h3
 have hj:(vs++(ds++es)).getD (off+l.length+k.length - 1) nV=y:=by rw [←List.append_assoc,vh0 (by simp;omega) (by simp;omega),show off+l.length+k.length - 1 - (vs++ds).length=k.length - 1 by simp;omega];exact g3
 unfold vh8
 rw [qw3 h0 h23]
 show ofN ps p [(vs++(ds++es)).getD (off+l.length - 1) nV,(vs++(ds++es)).getD (off+l.length+k.length - 1) nV]=_
 rw [hi,hj]
theorem jb2 {l k r:List RN} {x y z:V} (hv:vs.length=off) (hl:0<l.length) (hkl:0<k.length) (hrl:0<r.length) (h0:0≤p.op) (h23:p.op≤23) (hx:VEnd ps vs l x) (hy:∀ds:List V,ds.length=l.length→VEnd ps (vs++ds) k y) (hz:∀ds:List V,ds.length=l.length+k.length→VEnd ps (vs++ds) r z) :
  VEnd ps vs (l++k++r++[qi3 p [off+l.length - 1,off+l.length+k.length - 1,off+l.length+k.length+r.length - 1] neg]) (if neg=true then qz7 (ofN ps p [x,y,z]) else ofN ps p [x,y,z]):=by
 obtain ⟨ds,h1,h2,h3⟩:=hx
 obtain ⟨es,g1,g2,g3⟩:=hy ds h2
 have hlk:qu9 ps vs (l++k)=vs++(ds++es):=by rw [qx1,h1,g1,List.append_assoc]
 obtain ⟨fs,f1,f2,f3⟩:=hz (ds++es) (by simp [h2,g2])
 have hlr:qu9 ps vs (l++k++r)=vs++(ds++es++fs):=by rw [qx1,hlk,f1,List.append_assoc]
 refine qx6 hlr (by simp [h2,g2,f2]) ?_
 have hi:(vs++(ds++es++fs)).getD (off+l.length - 1) nV=x:=by
  rw [List.append_assoc ds,←List.append_assoc vs,vh1 (by omega) (by omega),show off+l.length - 1 - vs.length=l.length - 1 by omega];exact h3
 have hj:(vs++(ds++es++fs)).getD (off+l.length+k.length - 1) nV=y:=by
  rw [List.append_assoc ds,←List.append_assoc vs,←List.append_assoc (vs++ds),vh1 (by simp;omega) (by simp;omega),show off+l.length+k.length - 1 - (vs++ds).length=k.length - 1 by simp;omega];exact g3
 have hm:(vs++(ds++es++fs)).getD (off+l.length+k.length+r.length - 1) nV=z:=by
  rw [←List.append_assoc vs,vh0 (by simp;omega) (by simp;omega),show off+l.length+k.length+r.length - 1 - (vs++(ds++es)).length=r.length - 1 by simp;omega];exact f3
 unfold vh8
 rw [qw3 h0 h23]
 show (if neg=true then qz7 (ofN ps p [(vs++(ds++es++fs)).getD (off+l.length - 1) nV,(vs++(ds++es++fs)).getD (off+l.length+k.length - 1) nV,(vs++(ds++es++fs)).getD (off+l.length+k.length+r.length - 1) nV]) else ofN ps p [(vs++(ds++es++fs)).getD (off+l.length - 1) nV,(vs++(ds++es++fs)).getD (off+l.length+k.length - 1) nV,(vs++(ds++es++fs)).getD (off+l.length+k.length+r.length - 1) nV])=_
 rw [hi,hj,hm]
end
theorem val_flat (ps:List Pr):∀{t:Ast} {off:Nat} {l:List RN},Flat t off l→ShA t→∀vs:List V,vs.length=off→VEnd ps vs l (ofA ps t):=by
 intro t off l h
 induction h with
 | leaf p off=>
  intro hs vs hv
  have hs1:=hs.1
  have hs2:=hs.2
  refine qx6 (l:=[]) (ds:=[]) (by rw [List.append_nil];rfl) rfl ?_
  unfold vh8
  rw [qw3 hs1 (by omega)]
  rfl
 | un p hx ih=>
  intro hs vs hv
  have ho:=hs.1
  exact val_un1 (neg:=false) hv hx.pos (by omega) (by omega) (ih hs.2.2.2 vs hv)
 | bin p hx hy ihx ihy=>
  intro hs vs hv
  have ho:=hs.1
  exact val_bin1 hv hx.pos hy.pos (by omega) (by omega) (ihx hs.2.1 vs hv) (fun ds hd=>ihy hs.2.2 (vs++ds) (by simp;omega))
 | tri p hx hy hz ihx ihy ihz=>
  intro hs vs hv
  have ho:=hs.1
  exact jb2 (neg:=false) hv hx.pos hy.pos hz.pos (by omega) (by omega) (ihx hs.2.1 vs hv) (fun ds hd=>ihy hs.2.2.1 (vs++ds) (by simp;omega)) (fun ds hd=>ihz hs.2.2.2 (vs++ds) (by simp;omega))
 | neg1 pl q hq hx ih=>
  intro hs vs hv
  obtain ⟨_,_,_,hs⟩:=hs
  exact val_un1 (neg:=true) hv hx.pos (by omega) (by omega) (ih hs.2.2.2 vs hv)
 | neg3 pl q hq hx hy hz ihx ihy ihz=>
  intro hs vs hv
  obtain ⟨_,_,_,hs⟩:=hs
  exact jb2 (neg:=true) hv hx.pos hy.pos hz.pos (by omega) (by omega) (ihx hs.2.1 vs hv) (fun ds hd=>ihy hs.2.2.1 (vs++ds) (by simp;omega)) (fun ds hd=>ihz hs.2.2.2 (vs++ds) (by simp;omega))
theorem runV_cls (ps:List Pr) (ns:List RN) (cs:List Int) (vs:List V):qu9 ps vs (qp1 ns cs)=qu9 ps vs ns:=by
 unfold qp1
 have key:∀(l:List RN) (k:Nat) (vs:List V),qu9 ps vs ((l.zipIdx k).map fun x=>{ x.1 with cls:=if x.2<cs.length then cs.getD x.2 0 else x.1.cls })=qu9 ps vs l:=by
  intro l
  induction l with
  | nil=>intro k vs;rfl
  | cons n t ih=>
   intro k vs
   rw [List.zipIdx_cons,List.map_cons,qu9,qu9,nodeV_cls]
   exact ih _ _
 exact key ns 0 vs
end
end Go.Proofs.YtfkcaldjphakpaaGreatDoor
