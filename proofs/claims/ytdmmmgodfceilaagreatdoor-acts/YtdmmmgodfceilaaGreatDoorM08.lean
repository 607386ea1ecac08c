/- The document's answer -/
import Derived.Test.YtdmmmgodfceilaaGreatDoorM07
import Derived.Test.YtdmmmgodfceilaaGreatDoorM02
import Derived.ArgAppend
set_option maxHeartbeats 64000000
set_option maxRecDepth 100000
namespace Go.Proofs.YtdmmmgodfceilaaGreatDoor
open Go.RowKit Go.Proofs.Tryz
open Go renaming Value->Ap,World->Ao
open Go.Ending renaming returned->Ak
open Go.IntKind renaming i64->J
open Go.Obj renaming cells->Al
open Go.Value renaming agg->Ai,bool->Ah,int->I,pointer->Ag,slice->C,string->Y,tuple->Aj
open Option renaming none->O,some->G
open Or renaming inl->Am,inr->An
variable{cs:Array Ap}{l:Ast}{E N S X s:tq}{a at' c en er k kind pl z:Int}{ts:List tu}{ks:List Int}{ns:List RN}{vs:List Ap}{B K L b cap g i0 j lo m n op rb:Nat}{R:Res}{sl st y:St}{f:St->Res}{ty ty':TypeId}{b1 b2:UInt8}{iv lv nv v:Ap}{W w w':Ao}
theorem vq8(d:(ks=[22,23]/\b1=43/\b2=45)\/(ks=[24,25]/\b1=42/\b2=47))(sl:St):∃t1 t2:Bool,(rK sl.tk.A==5&&((BS (tkS sl)).toList==(⟨#[b1]⟩:tq).toList))=t1/\(rK sl.tk.A==5&&((BS (tkS sl)).toList==(⟨#[b2]⟩:tq).toList))=t2/\ks.contains sl.tk.A=(t1||t2)/\((t1||t2)=true->22<=sl.tk.A/\sl.tk.A<=25):=by
 rcases d with⟨rfl,rfl,rfl⟩|⟨rfl,rfl,rfl⟩;refine⟨_,_,isK (c:=22) rfl ue ue 5 rfl,isK (c:=23) rfl ue ue 5 rfl,by simp only[sr,List.contains_nil,mj],λh=>?_⟩;simp at h;omega;refine⟨_,_,isK (c:=24) rfl ue ue 5 rfl,isK (c:=25) rfl ue ue 5 rfl,by simp only[sr,List.contains_nil,mj],λh=>?_⟩;simp at h;omega
theorem qfa{F:Nat}(hC:(F=238/\K=263/\b1=43/\b2=45/\ks=[22,23])\/(F=263/\K=295/\b1=42/\b2=47/\ks=[24,25]))(rb:Nat)(s:tq)(hs:s.size<=200)(op m:Nat)(hm:200<=m)(bZ:m<=900)(f:St->Res)(t:RReads K rb s op m f):RReads F rb s op (m+1) (jR s f ks):=by
 intro w st ns j h ho;have HF:=qd t;have HC:=qd (t w st ns j h ho);have E:=qd (vq8 (ks:=ks) (b1:=b1) (b2:=b2) (by rcases hC with⟨_,_,d,h2,u⟩|⟨_,_,d,h2,u⟩;exact Am ⟨u,d,h2⟩;exact An ⟨u,d,h2⟩));obtain⟨R,hR⟩:∃r,jR s f ks st=r:=⟨_,rfl⟩;rw[hR];have HR:=qd hR;clear t h hR;rcases hC with⟨rfl,rfl,rfl,rfl,_⟩|⟨rfl,rfl,rfl,rfl,_⟩
 all_goals
  first|go_enter func238,ntmps238|go_enter func263,ntmps263
  go_wp2_with((first|go_at_call 263|go_at_call 295);refine HC.mono ?_;rintro e w1 d;have H1:Hid (∃v,e=Ak v/\vnm rb s w op (m+1) ns j st.M R f ks v w1):=qd (by
    obtain⟨A4,d⟩:=d;rw[<-q9 HR]
    cases A9:f st with
    | ok l0 st0=>rw[A9]at d;obtain⟨new,rfl,C7,Q8,T8,U⟩:=d;exact⟨_,rfl,A4,Am ⟨s.size+1,l0,st0,new,qdv A9,ub,rfl,C7,Q8,T8,U⟩⟩
    | err en pl=>rw[A9]at d;obtain⟨i,rfl,C7⟩:=d;exact⟨_,rfl,A4,An ⟨en,pl,i,qb9 A9,rfl,C7.more ub⟩⟩);clear d;obtain⟨v1,rfl,d⟩:=q9 H1;have sQ:=qd d;clear H1 d)
  go_loopw [3] (λv wr=>Hid (vnm rb s w op (m+1) ns j st.M R f ks v wr)) (λv wr=>meT s wr rb)
  exact sQ;obtain⟨P,o⟩:=q9 hrel;rcases o with⟨n,l,sl,new,A,hn,rfl,C,BO,Q6,U⟩|⟨en,pl,i,A,rfl,lH⟩
  .have J7:=C.U
   have OV:=J7.M;have dV:=C.lt;obtain⟨c2,c3,c4,c5,c6⟩:=C.ct;have c8:=C.c8;obtain⟨mm,rfl⟩:∃mm,n=mm+1:=⟨n - 1,ub⟩;have NA:=qd (qqr C);have H:=qd C;have Q:=qd P;have P4:=qd U;clear C P U hrel sQ;obtain⟨O,Z,iL,fX,q,D⟩:=q9 E sl;rcases(show(O=false/\Z=false)\/O=true\/(O=false/\Z=true) by cases O<;>cases Z<;>simp) with⟨rfl,rfl⟩|rfl|⟨rfl,rfl⟩
   .have M:Hid (R=.ok l sl):=qd (by rw[A,gq q])
    clear q A D
    go_wp2_with(go_at_call 131;refine be (qhi H) λw' hw'=>?_;subst w';simp only[iL,fX])
    go_ret;rw[q9 M];exact⟨q9 Q,new,rfl,q9 H,BO,Q6,q9 P4⟩
   all_goals
    replace D:=D rfl;replace q:=q.trans (show _=true from rfl);have bR:=J7.W ub;have FR:=qd (H.fresh (Al #[I J (rK sl.tk.A),I J sl.M,I J (tkZ sl),Y (BS (tkS sl)),I J (tkN sl)] 171));have H':=qd (H.alloc (Al #[I J (rK sl.tk.A),I J sl.M,I J (tkZ sl),Y (BS (tkS sl)),I J (tkN sl)] 171));have hN:=qd (congrArg BS ((qjj (An (An ⟨ub,D.2⟩))).trans (vax (st:=sl) ub).symm));have U3:sl.tk.A≠0/\sl.tk.A≠1:=⟨ub,ub⟩;have HKD:=qd D;have n0:¬wr.1.size=rb:=ub;have n1:¬rb=wr.1.size:=ub;rcases A9:f (qh s sl) with⟨r,L0⟩|⟨en,pl⟩
   all_goals
    first
     | have M:=qd (A.trans (gn q (gP A9)))
     | have M:=qd (A.trans (pH q (kr A9)))
    have L4:=qd A9;clear q A A9 D
    go_wp2_with(first|(go_at_call 131;refine be (qhi H) λw' hw'=>?_;subst w';simp only[iL,fX])|(go_at_call 94;refine be (jG H' hs U3.1 U3.2) ?_;rintro w2⟨A8,B9⟩;obtain⟨o,t,_,T,hL⟩:=A8.mine uc FR;have p1:Xc w2 wr.1.size 1 (I J sl.M):=(o 1).trans uc;have p3:Xc w2 wr.1.size 3 (Y (BS (tkS sl))):=(o 3).trans uc;have fF:=qd T;have N7:=qd (yP dV A8);have J0:=qd B9;clear A8 B9 o t T)|((first|go_at_call 263|go_at_call 295);refine(HF _ (qh s sl) (ns++new) (j+1) J0 BO).mono ?_;rintro e w3⟨D7,u⟩;rw[q9 L4]at u;(first|(have _q:=en;obtain⟨i3,rfl,D8⟩:=u)|(obtain⟨vef,rfl,D8,JT,hp3,hfl3⟩:=u;have EY:=qd hfl3;clear hfl3));obtain⟨o,t,_,T,WC⟩:=D7.mine hL fF;have q1:Xc w3 wr.1.size 1 (I J sl.M):=(o 1).trans p1;have q3:Xc w3 wr.1.size 3 (Y (BS (tkS sl))):=(o 3).trans p3;have R8:=qd D7;have P0:=qd D8;clear D7 D8 o t T)|(go_at_call 132;(first|(have _q:=en;refine(qdo P0 ub (tkS sl) sl.M (ns.length+new.length - 1) i3 rfl uc).mono ?_;rintro e w4⟨i4,rfl,M3,G⟩;have mD:=qd (vhj G))|(refine be (qh9 P0 hs ⟨qef sl.tk.A,sl.M,0,[],[],[]⟩ (ns.length+new.length - 1) (ns.length+new.length+vef.length - 1) hN rfl rfl rfl uc) ?_;rintro w4⟨M3,G⟩;have wI:=G.U.M;have mD:=qd (qqr G)));have bP:=qd (((Q.trans N7).trans R8).trans M3);have bN:=qd G;clear M3 G))
    go_roundw
    case rel=>
     first
      | exact qd ⟨q9 bP,An ⟨en,pl,i4,q9 M,rfl,q9 bN⟩⟩
      | (
       refine qd ⟨q9 bP,Am ⟨mm,_,L0,new++vef++[jC ⟨qef sl.tk.A,sl.M,0,[],[],[]⟩ [ns.length+new.length - 1,ns.length+new.length+vef.length - 1] false],q9 M,ub,vhg ud, ?_,JT,ub,Flat.bin _ P4 (by have:=q9 EY;rwa [ce]at this)⟩⟩;have:=q9 bN
       simpa only[bu]using this)
    rw[q9 NA,q9 mD];omega
  obtain⟨c8,eT⟩:=lH.c8;have HU:=qd lH;have Q:=qd P;clear lH P hrel sQ
  go_wp2
  go_ret;rw[A];exact⟨q9 Q,i,rfl,q9 HU⟩
theorem RReads.more{d:Nat}(h:RReads K rb s op m f)(o:m<=d):RReads K rb s op d f:=λw st ns j e i=>(h w st ns j e i).mono λ_ _ q=>q.more o ui
structure VN(w:Ao)(rb L:Nat)(ty:TypeId)(cs:Array Ap):Prop where
 blk:w.1[L]?=G (Al cs ty (0,0))
 past:rb<L
 no:¬pO w rb L
section
variable {w w':Ao} {rb L:Nat} {ty:TypeId} {cs:Array Ap}
theorem VN.lt(h:VN w rb L ty cs):L<w.1.size:=(cf.1 h.blk).1
theorem VN.cell(h:VN w rb L ty cs)(i:Nat):w.cell? ⟨L,i,O⟩=cs[i]?:=by
 have:=h.blk;simp[World.cell?,this]
theorem VN.frz(h:VN w rb L ty cs)(i:Nat):w.frozen? ⟨L,i,O⟩=false:=by
 have:=h.blk;simp[World.frozen?,this]
theorem VN.T(h:VN w rb L ty cs)(d:TKept rb w w'):VN w' rb L ty cs:=
 ⟨(d.block L h.lt h.no).trans h.blk,h.past,λe=>h.no (d.own L h.lt e)⟩
theorem qnw(w:Ao)(h:L≠rb)(i:Nat)(u:Ap)(k:Nat):pO (w.setCell ⟨L,i,O⟩ u) rb k↔pO w rb k:=by
 have d:(w.setCell ⟨L,i,O⟩ u).cell? ⟨rb,0,O⟩=w.cell? ⟨rb,0,O⟩:=aw (w:=w) (a:=⟨rb,0,O⟩) (au w ⟨L,i,O⟩ u rb (λe=>h e.symm));unfold pO;rw[d]
theorem VN.set(h:VN w rb L ty cs)(i:Nat)(u:Ap):VN (w.setCell ⟨L,i,O⟩ u) rb L ty (cs.setIfInBounds i u):=by
 refine⟨?_,h.past,λd=>h.no ((qnw w (uu h.past) i u L).1 d)⟩;have:=h.blk;simp[World.setCell,ij,this]
theorem VN.setB(h:VN w rb L ty cs){M:Nat}(o:L≠M)(d:M≠rb)(i:Nat)(u:Ap):VN (w.setCell ⟨M,i,O⟩ u) rb L ty cs:=
 ⟨(au w ⟨M,i,O⟩ u L o).trans h.blk,h.past,λe=>h.no ((qnw w d i u L).1 e)⟩
theorem VN.rt(h:VN w rb L ty cs)(H:(3:TypeId)≠ty)(G:(9:TypeId)≠ty)(t:RT w rb s ns j st)(i:Nat)(u:Ap):RT (w.setCell ⟨L,i,O⟩ u) rb s ns j st:=by
 obtain⟨nv,d,D,F,A⟩:=t;have r:L≠rb:=uu h.past
 have q:(w.setCell ⟨L,i,O⟩ u).1[rb]?=w.1[rb]?:=au w ⟨L,i,O⟩ u rb (λe=>r e.symm);have o:∀j,(w.setCell ⟨L,i,O⟩ u).cell? ⟨rb,j,O⟩=w.cell? ⟨rb,j,O⟩:=λj=>aw (w:=w) (a:=⟨rb,j,O⟩) q
 have C:∀j,(w.setCell ⟨L,i,O⟩ u).frozen? ⟨rb,j,O⟩=w.frozen? ⟨rb,j,O⟩:=λj=>cn (w:=w) (a:=⟨rb,j,O⟩) q
 refine⟨nv,⟨by simpa using d.lt,(o _).trans d.c0,(o _).trans d.c1,(o _).trans d.c2,(o _).trans d.c3,(o _).trans d.c4,(o _).trans d.c5,(o _).trans d.c6,(o _).trans d.c7,(o _).trans d.c8,(o _).trans d.c9,λj=>(C j).trans (d.fz j)⟩,D.far h.blk H G r (λe=>h.no (An ⟨nv,d.c0,e⟩)) i u,F,A⟩
theorem VN.re(h:VN w rb L ty cs)(H:(3:TypeId)≠ty)(G:(9:TypeId)≠ty)(t:RE w rb s en pl op m)(i:Nat)(u:Ap):RE (w.setCell ⟨L,i,O⟩ u) rb s en pl op m:=by
 obtain⟨nv,a,ns,d,D,F,A⟩:=t;have r:L≠rb:=uu h.past
 have q:(w.setCell ⟨L,i,O⟩ u).1[rb]?=w.1[rb]?:=au w ⟨L,i,O⟩ u rb (λe=>r e.symm);have o:∀j,(w.setCell ⟨L,i,O⟩ u).cell? ⟨rb,j,O⟩=w.cell? ⟨rb,j,O⟩:=λj=>aw (w:=w) (a:=⟨rb,j,O⟩) q
 have C:∀j,(w.setCell ⟨L,i,O⟩ u).frozen? ⟨rb,j,O⟩=w.frozen? ⟨rb,j,O⟩:=λj=>cn (w:=w) (a:=⟨rb,j,O⟩) q
 refine⟨nv,a,ns,⟨by simpa using d.lt,(o _).trans d.c0,(o _).trans d.c1,(o _).trans d.c2,(o _).trans d.c3,(o _).trans d.c4,(o _).trans d.c5,(o _).trans d.c6,(o _).trans d.c7,(o _).trans d.c8,(o _).trans d.c9,λj=>(C j).trans (d.fz j)⟩,D,F.far h.blk H G r (λe=>h.no (An ⟨nv,d.c0,e⟩)) i u,A⟩
theorem VN.row(h:VN w rb L ty cs)(e:ty'≠ty)(d:RowOf w rb ty' v vs)(i:Nat)(u:Ap):RowOf (w.setCell ⟨L,i,O⟩ u) rb ty' v vs:=d.far h.blk e (uu h.past) i u
theorem VN.new{s:tq}{ns:List RN}{j:Nat}{st:St}(h:RT w rb s ns j st)(ty:TypeId)(cs:Array Ap){L:Nat}(d:L=w.1.size):VN (w.alloc (Al cs ty)) rb L ty cs:=by
 subst d;exact⟨heap_alloc_new w _,h.lt,h.fresh _⟩
theorem VN.alloc(h:VN w rb L ty cs)(d:rb<w.1.size)(o:Obj):VN (w.alloc o) rb L ty cs:=h.T (TKept.of_below (uj.alloc ui o) d)
end
section
variable {w:Ao} {rb:Nat} {s:tq} {ns:List RN} {j:Nat} {st:St} {en pl:Int} {op m:Nat}
theorem qf1(h:RT w rb s ns (j+1) st)(d:s.size<=200)(p:Pay)(hp:p.K=0)(ins:List Nat)(neg:Bool)(r:BS (qH p.op)=N)(q:BS p.V=S)(t:BS p.h=E)(o:RowOf w rb 3 iv (pP ins))(i:RowOf w rb 9 lv (qx p.P)):
  ua 132 #[Ag (G ⟨rb,0,O⟩),Ai #[Y N,I J p.M,iv,Y S,Y E,lv,I J 0,Ah neg,I J 0]] w
   λe w'=>e=Ak (I J ns.length)/\TKept rb w w'/\RT w' rb s (ns++[jC p ins neg]) j st:=by
 have:=qhc h d (jC p ins neg) o i;unfold rnV at this;have D:(jC p ins neg).op=qH p.op:=rfl;have C:(jC p ins neg).V=p.V:=rfl;have A:(jC p ins neg).h=p.h:=rfl;have u:(jC p ins neg).K=p.K:=rfl;rw[D,C,A,u,hp,r,q,t]at this;exact this
theorem qha(h:RE w rb s en pl op m)(d:m<=1000)(ins:List Nat)(ts:List tu)(neg:Bool)(q:RowOf w rb 3 iv (pP ins))(o:RowOf w rb 9 lv (qx ts)):
  ua 132 #[Ag (G ⟨rb,0,O⟩),Ai #[Y N,I J a,iv,Y S,Y E,lv,I J 0,Ah neg,I J 0]] w
   λe w'=>∃i:Nat,e=Ak (I J i)/\TKept rb w w'/\RE w' rb s en pl op (m+1):=
 qhb h d ⟨N.data.toList,a,ins,S.data.toList,E.data.toList,ts,0,neg,0⟩ q o
end
theorem VN.nine{A u t r q o i e d:Ap}(h:VN w rb n ty #[A,u,t,r,q,o,i,e,d]):Xc w n 0 A/\Xc w n 1 u/\Xc w n 2 t/\Xc w n 3 r/\Xc w n 4 q/\Xc w n 5 o/\Xc w n 6 i/\Xc w n 7 e/\Xc w n 8 d/\Xf w n:=⟨h.cell 0,h.cell 1,h.cell 2,h.cell 3,h.cell 4,h.cell 5,h.cell 6,h.cell 7,h.cell 8,h.frz⟩
abbrev nuN(w:Ao)(pl:Nat)(b:Bool):Array Ap:=#[Y ⟨#[78,85,76,76]⟩,I J pl,C (G ⟨w.1.size,0,O⟩) 1 1,Y ⟨#[]⟩,Y ⟨#[]⟩,C O 0 0,I J 0,Ah b,I J 0]
abbrev nuW(w:Ao)(i0 pl:Nat):Ao:=(w.alloc (Al #[I J i0] 3)).alloc (Al (nuN w pl false) 178)
theorem qzj(rb:Nat)(s:tq)(d:s.size<=200)(op m:Nat)(hm:201<=m)(w:Ao)(st:St)(ns new:List RN)(j:Nat)(l:Ast)(h:RT w rb s (ns++new) j st)(P:st.op=op)(hk:st.tk.A=14)(E6:Flat l ns.length new)(i0:Nat)(O8:i0=ns.length+new.length - 1):
  ua 240 #[Ag (G ⟨rb,0,O⟩),I J i0] w (REnds rb s w op m ns j st.M (jk s l st)):=by
 obtain⟨_,c3,_⟩:=h.ct;have H:=h.lt;have n0:¬w.1.size=rb:=ub;have n1:¬rb=w.1.size:=ub;have n2:¬w.1.size+1=rb:=ub;have n3:¬rb=w.1.size+1:=ub;have mE:Hid (TKept rb w (nuW w i0 st.M)):=qd (((TKept.refl rb w).alloc H _).alloc H _);have H0:Hid (RT (nuW w i0 st.M) rb s (ns++new) j st):=qd ((h.alloc _).alloc _);have wY:Hid (VN (nuW w i0 st.M) rb (w.1.size+1) 178 (nuN w st.M false)):=qd (VN.new (h.alloc _) _ _ uc);have mC:Hid (RowOf (nuW w i0 st.M) rb 3 (C (G ⟨w.1.size,0,O⟩) 1 1) (pP [i0])):=qd (RowOf.T (RowOf.made H h.fresh 3 #[I J i0] 1 rfl) (TKept.of_below (uj.alloc ui _) (h.alloc _).lt));have Q6:=h.U.W ub;have P4:=qd E6;have cH:=qd O8;have TF:(qh s st).tk.A≠0->(qh s st).M<(qh s (qh s st)).M:=(qG s st h.U.B).W;have TD:(qh s (qh s st)).tk.A≠0->(qh s (qh s st)).M<(qh s (qh s (qh s st))).M:=(qG s _ (qG s st h.U.B).B).W;clear h E6 O8;unfold jk;rcases(show((qh s st).tk.A=7/\(qh s (qh s st)).tk.A=15)\/((qh s st).tk.A=7/\¬(qh s (qh s st)).tk.A=15)\/(¬(qh s st).tk.A=7/\(qh s st).tk.A=15)\/(¬(qh s st).tk.A=7/\¬(qh s st).tk.A=15) by omega) with⟨r,o⟩|⟨r,T⟩|⟨M,o⟩|⟨M,T⟩
 all_goals
  first|(rw[bo r];have FW:=ew.2 r)|(rw[ak M];have FW:=bh.2 M)
  first|rw[bo o]|rw[ak T]
  go_enter func240,ntmps240
  go_wp2_with(first|(go_at_call 131;refine be (qr5 u 7 (X:=⟨#[78,79,84]⟩) rfl ue ue rfl) λw' hw'=>?_;subst w';rw[FW])|(go_at_call 94;have _q:=u;refine be (jG (t.rt ue ue u 7 (Ah true)) d ub ub) ?_;rintro w2⟨D,B9⟩;have rE:=qd ((t.set 7 (Ah true)).T D);have XI:=qd ((t.row ue MV 7 (Ah true)).T D);have N7:=qd ((J8.far H (p:=⟨w.1.size+1,7,O⟩) (by show w.1.size<=w.1.size+1;omega) (Ah true)).trans D);have J0:=qd B9;clear D B9)|(go_at_call 94;refine be (jG H0 d ub ub) ?_;rintro w1⟨F,C7⟩;have q:=(q9 wY).T F;have p7:Xc w1 (w.1.size+1) 7 (Ah false):=q.cell 7;have pz:=q.frz;have MV:=qd (mC.T F);have J8:=qd (mE.trans F);have B8:=C7.lt;have t:=qd q;have u:=qd C7;clear F C7 q)|(go_at_call 264;(first|(have Z:=J0;have HV:Hid (VN _ _ _ _ (nuN w st.M true)):=rE;have i:=XI;have HK:=N7)|(have Z:=u;have HV:=t;have i:=MV;have HK:=J8));(first|(have _q:=o;refine(qhl Z d 15 rfl ue ue rfl o).mono ?_)|refine(pF Z d 15 rfl ue ue rfl T).mono ?_);rintro e w3⟨rfl,A,D8⟩;obtain⟨q0,q1,q2,q3,q4,q5,q6,q7,q8,_⟩:=(HV.T A).nine;have MU:=qd (i.T A);have R8:=qd (HK.trans A);have P0:=qd D8;clear A D8)|(go_at_call 132;(first|(have _q:=o;refine be (qf1 P0 d ⟨23,st.M,0,[],[],[]⟩ rfl [i0] _ rfl rfl rfl MU (RowOf.no _ _ _)) ?_;rintro w4⟨Y,U⟩)|(refine(qha P0 ub [i0] [] _ MU (RowOf.no _ _ _)).mono ?_;rintro e w4⟨i4,rfl,Y,U⟩));have Q:=qd (R8.trans Y);have bN:=qd U;clear Y U))
  go_ret
  first
   | exact⟨q9 Q,i4,rfl,P ▸ (q9 bN).more ub⟩
   | (
    have HH:=q9 bN;rw[bu,q9 cH]at HH;have:=TF ub
    first
     | (
      have _q:=r;have:=TD ub
      exact⟨q9 Q,_,jd uc,HH.less ub,P,ub,Flat.neg1 _ _ (An (An rfl)) P4⟩)
     | exact⟨q9 Q,_,jd uc,HH.less ub,P,ub,Flat.un _ P4⟩)
structure But(L:Nat)(w w':Ao):Prop where
 os:w'.os=w.os
 tape:w'.tape=w.tape
 output:w'.output=w.output
 size:w.1.size<=w'.1.size
 block:∀k,k<w.1.size->k≠L->w'.1[k]?=w.1[k]?
section
variable {L rb:Nat} {w w' w'':Ao} {ty:TypeId} {cs:Array Ap}
theorem But.refl(L:Nat)(w:Ao):But L w w:=⟨rfl,rfl,rfl,ui,λ_ _ _=>rfl⟩
theorem But.trans(h:But L w w')(k:But L w' w''):But L w w'':=⟨k.os.trans h.os,k.tape.trans h.tape,k.output.trans h.output,bs h.size k.size,λi e d=>(k.block i (aq e h.size) d).trans (h.block i e d)⟩
theorem But.below(h:But L w w')(d:Xb w' w''):But L w w'':=h.trans ⟨d.os,d.tape,d.output,d.size,λk e _=>d.block k e⟩
theorem But.alloc(h:But L w w')(o:Obj):But L w (w'.alloc o):=h.below (uj.alloc ui o)
theorem But.set(h:But L w w')(i:Nat)(u:Ap):But L w (w'.setCell ⟨L,i,O⟩ u):=
 h.trans ⟨rfl,rfl,rfl,uc,λk _ d=>au w' ⟨L,i,O⟩ u k d⟩
theorem But.grown(h:But L w w'){row:Option Nat}(d:w'.grownBy w'' row)(o:∀g,row=G g->w.1.size<=g):But L w w'':=
 ⟨d.os.trans h.os,d.tape.trans h.tape,d.output.trans h.output,bs h.size d.size,λk i q=>(d.block k (aq i h.size) (λe=>uu (o k e.symm))).trans (h.block k i q)⟩
theorem But.cell0(h:But L w w')(e:rb<w.1.size)(d:rb≠L)(i:Nat):w'.cell? ⟨rb,i,O⟩=w.cell? ⟨rb,i,O⟩:=aw (w:=w) (w':=w') (a:=⟨rb,i,O⟩) (h.block rb e d)
theorem But.own(h:But L w w')(e:rb<w.1.size)(d:rb≠L)(k:Nat):pO w' rb k↔pO w rb k:=by unfold pO;rw[h.cell0 e d]
theorem But.row(h:But L w w')(G:rb<w.1.size)(hv:VN w rb L ty cs)(o:ty'≠ty)(i:RowOf w rb ty' v vs):RowOf w' rb ty' v vs:=by
 have u:rb≠L:=uu hv.past
 rcases i with i|⟨g,cap,c,fr,hv',t,d,r,q⟩;exact Am i;have F:g≠L:=λe=>by subst e;rw[hv.blk]at d;injection d with e;injection e with _ C _;exact o C.symm
 have D:=(cf.1 d).1;exact An ⟨g,cap,c,fr,hv',t,(h.block g D F).trans d,λA=>r ((h.own G u g).1 A),q⟩
theorem But.tr{n op:Int}(h:But L w w')(i:rb≠L)(d:TrC w rb nv s k a z S n op er at'):TrC w' rb nv s k a z S n op er at':=by
 have e:∀j,w'.cell? ⟨rb,j,O⟩=w.cell? ⟨rb,j,O⟩:=h.cell0 d.lt i;have o:∀j,w'.frozen? ⟨rb,j,O⟩=w.frozen? ⟨rb,j,O⟩:=λj=>cn (w:=w) (w':=w') (a:=⟨rb,j,O⟩) (h.block rb d.lt i)
 exact⟨aq d.lt h.size,(e _).trans d.c0,(e _).trans d.c1,(e _).trans d.c2,(e _).trans d.c3,(e _).trans d.c4,(e _).trans d.c5,(e _).trans d.c6,(e _).trans d.c7,(e _).trans d.c8,(e _).trans d.c9,λj=>(o j).trans (d.fz j)⟩
theorem But.nodes(h:But L w w')(A:rb<w.1.size)(c0:Xc w rb 0 nv)(hv:VN w rb L ty cs)(H:(3:TypeId)≠ty)(G:(9:TypeId)≠ty)(F:NodesAt w rb nv ns):NodesAt w' rb nv ns:=by
 obtain⟨C,D,d,o⟩:=F;refine⟨C,D,vj d λg q=>h.block g (d.lt g q).2 (λe=>hv.no (An ⟨nv,c0,e ▸ q⟩)),λi n r u t=>⟨h.row A hv H (o i n r u t).1,h.row A hv G (o i n r u t).2⟩⟩
theorem But.rt(h:But L w w')(hv:VN w rb L ty cs)(t:(3:TypeId)≠ty)(r:(9:TypeId)≠ty)(e:RT w rb s ns j st):RT w' rb s ns j st:=by
 obtain⟨nv,d,o,q,i⟩:=e;exact⟨nv,h.tr (uu hv.past) d,h.nodes d.lt d.c0 hv t r o,q,i⟩
theorem But.re(h:But L w w')(hv:VN w rb L ty cs)(t:(3:TypeId)≠ty)(r:(9:TypeId)≠ty)(e:RE w rb s en pl op m):RE w' rb s en pl op m:=by
 obtain⟨nv,a,ns,d,o,q,i⟩:=e;exact⟨nv,a,ns,h.tr (uu hv.past) d,o,h.nodes d.lt d.c0 hv t r q,i⟩
theorem TKept.but{a:Ao}(d:TKept rb a w)(h:But L w w')(q:rb<a.1.size)(hp:a.1.size<=L):TKept rb a w':=by
 refine⟨h.os.trans d.os,h.tape.trans d.tape,h.output.trans d.output,bs d.size h.size,λk e o=>(h.block k (aq e d.size) ub).trans (d.block k e o),λk e i=>d.own k e ((h.own (aq q d.size) ub k).1 i)⟩
theorem But.no(h:But L w w')(hv:VN w rb L ty cs)(e:rb<w.1.size):¬pO w' rb L:=λd=>hv.no ((h.own e (uu hv.past) L).1 d)
end
theorem qqp:(prog.info? 3).map (λi=>(i.zero,i.size,i.bytes))=G (G (I J 0),1,8):=uh
theorem vc4(t:Xc W g 0 (I J i0))(a:Nat):
  ∃o cap w',(qe9 #[50,50] 50 #[C (G ⟨g,0,O⟩) 1 1,C (G ⟨W.1.size,0,O⟩) 1 1]).run prog (W.alloc (Al #[I J a] 3))=.ok (C (G ⟨o,0,O⟩) 2 cap) w' /\
   Hid (w'.ownsRow W.1.size 3 1 (C (G ⟨o,0,O⟩) 2 cap) 2 [I J i0,I J a])/\Hid (Xb W w'):=by
 obtain⟨i,H,F5,B8,D4⟩:=info_parts qqp;have e:Xb W (W.alloc (Al #[I J (a:Int)] 3)):=uj.alloc ui _;have Y:g<W.1.size:=mq W ⟨g,0,O⟩ t;obtain⟨v',w',A,D,q⟩:=run_append_arg_grows (P:=prog) (w:=W.alloc (Al #[I J (a:Int)] 3)) 50 50 3 i _ 1 8 underlying50 H F5 B8 D4 rfl ub ⟨g,0,O⟩ 1 1 [I J i0] rfl
  (by
   intro j u d;rcases j with _|j
   .simp at d;subst d;exact((qk e).1 _ _ Y).trans t
   .simp at d)
  ⟨W.1.size,0,O⟩ 1 1 [I J a] rfl
  (by
   intro j u d;rcases j with _|j
   .simp at d;subst d;simp[Addr.add]
   .simp at d) ub (by unfold maxLen;omega) ub
 obtain⟨F,hn|⟨o,cap,cur,rfl,Z,G7,U,T,Q,M⟩⟩:=D;omega;refine⟨o,cap,w',A,qd ⟨F,An ⟨o,cap,cur,rfl, ?_,G7,U,T,Q,M⟩⟩,qd ⟨q.os.trans e.os,q.tape.trans e.tape,q.output.trans e.output,bs e.size q.size,λk r=>(q.block k (aq r e.size) uc).trans (e.block k r)⟩⟩;simp at Z;omega
theorem vc5{a:Nat}(t:W.ownsRow B 3 1 (C (G ⟨g,0,O⟩) 2 cap) 2 [I J i0,I J a])(Y:B<=W.1.size)(b:Nat):
  ∃o cap' w',(qe9 #[50,50] 50 #[C (G ⟨g,0,O⟩) 2 cap,C (G ⟨W.1.size,0,O⟩) 1 1]).run prog (W.alloc (Al #[I J b] 3))=.ok (C (G ⟨o,0,O⟩) 3 cap') w' /\
   Hid (w'.ownsRow B 3 1 (C (G ⟨o,0,O⟩) 3 cap') 3 [I J i0,I J a,I J b])/\Hid (W.grownBy w' (G g))/\B<=g:=by
 obtain⟨i,H,Q,U,T⟩:=info_parts qqp;have d:Xb W (W.alloc (Al #[I J (b:Int)] 3)):=uj.alloc ui _;have r:=t.lt g rfl;obtain⟨o,cap',w',D,M,e,_,_⟩:=run_append_lies (P:=prog) (W.alloc (Al #[I J (b:Int)] 3)) 50 50 B 3 i _ 1 8 underlying50 H Q U T rfl ub _ 2 _ (World.ownsRow.alloc t _) ⟨W.1.size,0,O⟩ 1 1 [I J b] rfl
  (by
   intro j u q;rcases j with _|j
   .simp at q;subst q;simp[Addr.add]
   .simp at q) (by simp[Value.oneCell']) ub (by unfold maxLen;omega) ub ud _ rfl
 exact⟨o,cap',w',D,qd M,qd ⟨e.os.trans d.os,e.tape.trans d.tape,e.output.trans d.output,bs d.size e.size,λk A F=>(e.block k (aq A d.size) F).trans (d.block k A)⟩,r.1⟩
theorem qyg(o:w.ownsRow B ty 1 (C (G ⟨g,0,O⟩) n cap) n vs)(H:rb<B)(q:¬pO w rb g):RowOf w rb ty (C (G ⟨g,0,O⟩) n cap) vs:=by
 obtain⟨F,i|⟨P,cap',cur,hv,T,D,M,J,I,r⟩⟩:=o;cases i.1;injection hv with e Q t;injection e with e;injection e with e;subst e t;refine An ⟨g,cap,cur,(0,0),by rw[show vs.length=n by omega],ub,D,q,λj u d=>?_⟩;rw[<-r]at d;have A:=aj.1 d;have:=A.1;simp only[cw]at this;rw[ll]at d
 split at d
 simpa using d;cases d
section
attribute [local go_sem ↓] vsj
def vsc(neg:Bool)(pl:Int)(t:Ast):Ast:=if neg=true then .un ⟨5,pl,0,[],[],[]⟩ t else t
def vee(neg:Bool)(pl:Int)(r:Res):Res:=match r with
 | .ok t st=>.ok (vsc neg pl t) st
 | .err en p=>.err en p
theorem RT.own_lt(h:RT w rb s ns j st)(k:Nat)(o:pO w rb k):k<w.1.size:=by
 obtain⟨nv,e,⟨t,_,q,_⟩,_⟩:=h;rcases o with rfl|⟨i,d,r⟩;exact e.lt;rw[e.c0]at d;injection d with d;subst d;exact(q.lt k r).2
theorem RE.own_lt(h:RE w rb s en pl op m)(k:Nat)(o:pO w rb k):k<w.1.size:=by
 obtain⟨nv,a,ns,e,_,⟨t,_,q,_⟩,_⟩:=h;rcases o with rfl|⟨i,d,r⟩;exact e.lt;rw[e.c0]at d;injection d with d;subst d;exact(q.lt k r).2
theorem vnu(d:st.tk.A=10):(∃en pl,f (qh s st)=.err en pl/\qX s f l st=.err en pl)\/∃lo A6,f (qh s st)=.ok lo A6/\((¬A6.tk.A=5/\qX s f l st=.err 2 A6.M)\/(A6.tk.A=5/\((∃en pl,f (qh s A6)=.err en pl/\qX s f l st=.err en pl)\/∃hi L0,f (qh s A6)=.ok hi L0/\qX s f l st=.ok (.tri ⟨20,st.M,0,[],[],[]⟩ l lo hi) L0))):=by
 unfold qX;rw[bo d]
 cases h:f (qh s st) with
 | err en pl=>exact Am ⟨en,pl,rfl,rfl⟩
 | ok lo A6=>
  refine An ⟨lo,A6,rfl, ?_⟩
  by_cases k5:A6.tk.A=5
  refine An ⟨k5, ?_⟩;simp only[bo k5]
  cases h2:f (qh s A6) with
  | err en pl=>exact Am ⟨en,pl,rfl,rfl⟩
  | ok hi L0=>exact An ⟨hi,L0,rfl,rfl⟩
  exact Am ⟨k5,by simp only[ak k5]⟩
abbrev beN(pl:Nat)(v:Ap)(neg:Bool):Array Ap:=#[Y ⟨#[66,69,84,87,69,69,78]⟩,I J pl,v,Y ⟨#[]⟩,Y ⟨#[]⟩,C O 0 0,I J 0,Ah neg,I J 0]
structure BwN(w W:Ao)(rb L g i0:Nat)(cs:Array Ap):Prop where
 v:VN W rb L 178 cs
 g:VN W rb g 3 #[I J i0]
 k:TKept rb w W
theorem BwN.T{W':Ao}(h:BwN w W rb L g i0 cs)(d:TKept rb W W'):BwN w W' rb L g i0 cs:=⟨h.v.T d,h.g.T d,h.k.trans d⟩
theorem vqy(A:rb<W.1.size)(hv:VN W rb L ty cs)(hg:Xc W g 0 (I J i0))(JL:∀k,pO W rb k->k<W.1.size)(a b:Nat):
  ∃i o r d t q,(qe9 #[50,50] 50 #[C (G ⟨g,0,O⟩) 1 1,C (G ⟨W.1.size,0,O⟩) 1 1]).run prog (W.alloc (Al #[I J a] 3))=.ok (C (G ⟨i,0,O⟩) 2 o) r /\
   (qe9 #[50,50] 50 #[C (G ⟨i,0,O⟩) 2 o,C (G ⟨r.1.size,0,O⟩) 1 1]).run prog ((r.setCell ⟨L,2,O⟩ (C (G ⟨i,0,O⟩) 2 o)).alloc (Al #[I J b] 3))=.ok (C (G ⟨d,0,O⟩) 3 t) q /\
   VN r rb L ty cs/\VN q rb L ty (cs.setIfInBounds 2 (C (G ⟨i,0,O⟩) 2 o)) /\
   Hid (But L W (q.setCell ⟨L,2,O⟩ (C (G ⟨d,0,O⟩) 3 t)))/\Hid (RowOf (q.setCell ⟨L,2,O⟩ (C (G ⟨d,0,O⟩) 3 t)) rb 3 (C (G ⟨d,0,O⟩) 3 t) (pP [i0,a,b])):=by
 have hL:=hv.lt;have hp:=hv.past;obtain⟨i,o,r,Z,AA,U⟩:=vc4 hg a;have F:But L W r:=(But.refl L W).below U;have ZY:=F.size;have u:VN r rb L ty cs:=⟨(U.block L hL).trans hv.blk,hp,F.no hv A⟩;have D:(r.setCell ⟨L,2,O⟩ (C (G ⟨i,0,O⟩) 2 o)).ownsRow W.1.size 3 1 (C (G ⟨i,0,O⟩) 2 o) 2 [I J i0,I J a]:=ownsRow_setCell_below AA (by show L<_;omega) _;have SH:=u.set 2 (C (G ⟨i,0,O⟩) 2 o);obtain⟨d,t,q,P,fF,H,hBg⟩:=vc5 D ud b;rw[size_setCell]at P;have M:But L W q:=(F.set 2 (C (G ⟨i,0,O⟩) 2 o)).grown H (λg' e=>uu (Option.some.inj e));have I4:i≠L:=ub;have Y:VN q rb L ty (cs.setIfInBounds 2 (C (G ⟨i,0,O⟩) 2 o)):=⟨(H.block L ud (λe=>I4 (Option.some.inj e).symm)).trans SH.blk,hp,M.no hv A⟩;have Q:=M.set 2 (C (G ⟨d,0,O⟩) 3 t);have T:(q.setCell ⟨L,2,O⟩ (C (G ⟨d,0,O⟩) 3 t)).ownsRow W.1.size 3 1 (C (G ⟨d,0,O⟩) 3 t) 3 [I J i0,I J a,I J b]:=ownsRow_setCell_below fF (by show L<_;omega) _;refine⟨i,o,r,d,t,q,Z,P,u,Y,qd Q,qd (qyg T A λho=>?_)⟩;have:=JL d ((Q.own A ub d).1 ho);have:=(T.lt d rfl).1;omega
theorem qbl(rb:Nat)(s:tq)(o:s.size<=200)(op m:Nat)(hm:200<=m)(bZ:m<=900)(f:St->Res)(hf:RReads 238 rb s op m f)(eS:xC 238 rb s)(w:Ao)(st:St)(ns new:List RN)(j:Nat)(l:Ast)(h:RT w rb s (ns++new) j st)(ho:st.op=op)(hk:st.tk.A=10)(E6:Flat l ns.length new)(i0:Nat)(O8:i0=ns.length+new.length - 1)(g:Nat)(P:VN w rb g 3 #[I J i0])(neg:Bool)(F:Int):
  ua 241 #[Ag (G ⟨rb,0,O⟩),Ai #[Y ⟨#[]⟩,I J st.M,C (G ⟨g,0,O⟩) 1 1,Y ⟨#[]⟩,Y ⟨#[]⟩,C O 0 0,I J 0,Ah neg,I J 0]] w (REnds rb s w op (m+1) ns j st.M (vee neg F (qX s f l st))):=by
 have A1:=h.lt;have n0:¬w.1.size=rb:=ub;have n1:¬rb=w.1.size:=ub;have V2:=P.lt;have fJ:=qd (BwN.mk (VN.new h 178 (beN st.M (C (G ⟨g,0,O⟩) 1 1) neg) rfl) (P.alloc A1 _) ((TKept.refl rb w).alloc A1 _));have Q6:=h.U.W ub;have H0:=qd (h.alloc (Al (beN st.M (C (G ⟨g,0,O⟩) 1 1) neg) 178));have HF:=qd hf;have ES:=qd eS;have P4:=qd E6;have cH:=qd O8;clear h P hf eS E6 O8;rcases vnu (s:=s) (f:=f) (l:=l) hk with⟨en,pl,G8,i⟩|⟨lo,A6,G8,⟨H,i⟩|⟨k5,⟨en2,pl2,L8,i⟩|⟨hi,L0,L8,i⟩⟩⟩
 all_goals
  rw[i];have YI:=qd G8;clear i G8
  try(have FC:=qd L8;clear L8)
  go_enter func241,ntmps241
  go_wp2_with(first|(go_at_call 94;refine be (jG H0 o ub ub) ?_;rintro w1⟨A4,C7⟩;have D6:=qd (fJ.T A4);have G3:=qd C7;clear A4 C7)|(go_at_call 238;have _q:=P0;(first|(have _q:=k5;refine(HF w3 (qh s A6) (ns++new++new1) (j+1+1) P0 Z9).mono ?_;rintro e w4⟨M3,U⟩;rw[q9 FC]at U;(first|(have _q:=en2;obtain⟨b,rfl,r⟩:=U)|(obtain⟨fK,he,r,JR,FX,oJ⟩:=U;obtain⟨b,Q⟩:∃k:Nat,(ns++new++new1).length+fK.length - 1=k:=⟨_,rfl⟩;rw[Q]at he;subst he;have Hb:=qd Q;clear Q;have EZ:=qd oJ;clear oJ)))|(refine(ES w3 _ _ _ _ P0).mono ?_;rintro e w4⟨b,rfl,M3,r⟩));have d:=qd (F9.T M3);have q:=qd r;clear M3 r;obtain⟨g1,o8,w6,g2,cG,w7,lX,cE,u,x7,NR,bW⟩:=vqy q.lt d.v (d.g.cell 0) q.own_lt a b;have p2:Xc w4 w.1.size 2 (C (G ⟨g,0,O⟩) 1 1):=(q9 d).v.cell 2;have q2:Xc w6 w.1.size 2 (C (G ⟨g,0,O⟩) 1 1):=u.cell 2;have z6:=u.frz;obtain⟨r0,r1,r2,r3,r4,r5,r6,r7,r8,z7⟩:=(show VN w7 rb w.1.size 178 (beN st.M (C (G ⟨g1,0,O⟩) 2 o8) neg) from x7).nine;clear u x7)|(go_at_call 238;refine(HF w1 (qh s st) (ns++new) (j+1) G3 ho).mono ?_;rintro e w2⟨A8,Z⟩;rw[q9 YI]at Z;(first|(have _q:=en;obtain⟨a,rfl,t⟩:=Z)|(obtain⟨new1,he,t,Z9,U9,hfl1⟩:=Z;obtain⟨a,T⟩:∃k:Nat,(ns++new).length+new1.length - 1=k:=⟨_,rfl⟩;rw[T]at he;subst he;have Ha:=qd T;clear T;have HFA:=qd t.U;have YH:=qd hfl1;clear hfl1));have U0:=qd (D6.T A8);have J0:=qd t;clear A8 t)|(go_at_call 264;(first|(have _q:=en;refine(qhk J0 ue).mono ?_)|(have _q:=H;refine(pF J0 o 5 rfl ue ue rfl H).mono ?_)|refine(qhl J0 o 5 rfl ue ue rfl k5).mono ?_);rintro e w3⟨rfl,D7,D8⟩;have F9:=qd (U0.T D7);have P0:=qd D8;clear D7 D8)|(go_at_call 132;(first|(have _q:=L0;refine be (qf1 (NR.rt d.v ue ue q) o ⟨20,st.M,0,[],[],[]⟩ rfl [i0,a,b] neg rfl rfl rfl bW (RowOf.no _ _ _)) ?_;rintro w9⟨dY,M⟩)|(refine(qha (NR.re d.v ue ue q) ub [i0,a,b] [] neg bW (RowOf.no _ _ _)).mono ?_;rintro e w9⟨i9,rfl,dY,M⟩));have A:=qd ((d.k.but NR A1 ui).trans dY);have D:=qd M;clear dY M))
  go_ret
  first
   | (
    have _q:=H
    exact⟨q9 A,i9,rfl,Z9 ▸ (q9 D).more ub⟩)
   | exact⟨q9 A,i9,rfl,D.more ub⟩
   | (
    refine⟨q9 A,new++new1++fK++[jC ⟨20,st.M,0,[],[],[]⟩ [ns.length+new.length - 1,ns.length+new.length+new1.length - 1,ns.length+new.length+new1.length+fK.length - 1] neg],jd ud, ?_,JR, ?_, ?_⟩
    .have:=q9 D
     rw[q9 cH,<-q9 Ha,<-q9 Hb]at this;simp only[ce]at this;have:=this.less (j':=j) ub;simpa only[bu]using this
    .have e1:=zp s A6
     have e2:=(q9 HFA).long ub;omega
    .have f1:=q9 YH
     have f2:=q9 EZ;rw[ce]at f1;rw[ce,ce]at f2
     cases neg with
     | false=>exact Flat.tri _ P4 f1 f2
     | true=>exact Flat.neg3 _ _ rfl P4 f1 f2)
end
theorem TrC.other{n op:Int}(h:TrC w rb nv s k a z S n op er at')(d:¬b=rb)(i:Nat)(u:Ap):TrC (w.setCell ⟨b,i,O⟩ u) rb nv s k a z S n op er at':=
 ((But.refl b w).set i u).tr (λe=>d e.symm) h
section
variable {w:Ao} {rb:Nat} {nv:Ap} {s:tq} {k a z:Int} {p:Nat} {S:tq} {n op er at':Int}
theorem qjq(h:TrC w rb nv s 4 a p S n op 0 at')(Q:s.size<=200)(hp:p<=s.size){u D r:Int}{H:tq}{t:Int}(C:quy s p u D r H t):
  ua 265 #[Ag (G ⟨rb,0,O⟩)] w λe w'=>e=Ak (Ai #[I J 4,I J a,I J p,Y S,I J n])/\TrC w' rb nv s u D r H t op 0 at'/\Kept rb w w':=by
 have n0:¬w.1.size=rb:=uu h.lt
 have n1:¬rb=w.1.size:=uu h.lt
 have P:¬w.1.size+1=rb:=uu h.lt
 have n3:¬rb=w.1.size+1:=uu h.lt
 have T:=qd (yu (w:=((w.alloc (Al #[I J 0,I J 0,I J 0,Y ⟨#[]⟩,I J 0] 171)).alloc (Al #[I J 4,I J a,I J p,Y S,I J n] 171))) ((h.alloc _).alloc _) Q hp C);obtain⟨lt,c0,c1,c2,c3,c4,c5,c6,c7,c8,c9,fz⟩:=h;clear C;go_enter func265,ntmps265
 go_wp2_with(go_at_call 94;refine be T ?_;rintro d⟨F,q⟩;obtain⟨o,A⟩:=jZ q;have p0:∀i,d.cell? ⟨w.1.size+1,i,O⟩=(#[I J 4,I J a,I J p,Y S,I J n]:Array Ap)[i]?:=(λi=>(o _ i uc P).trans uc);have M:∀i,d.cell? ⟨w.1.size,i,O⟩=(#[I J 0,I J 0,I J 0,Y ⟨#[]⟩,I J 0]:Array Ap)[i]?:=(λi=>(o _ i ud n0).trans uc);have rz:Xf d w.1.size:=λi=>(A _ i ud n0).trans uc;have U:=qd ((((Kept.refl rb w).alloc _).alloc _).trans q);have Z:=qd F;clear q F o A)
 all_goals go_wp2
 refine bj (by simp[go_sem,M]) rfl ⟨rfl,((((Z.other (b:=w.1.size) n0 0 _).other n0 1 _).other n0 2 _).other n0 3 _).other n0 4 _,((((U.far (p:=⟨w.1.size,0,O⟩) ui _).far (p:=⟨w.1.size,1,O⟩) ui _).far (p:=⟨w.1.size,2,O⟩) ui _).far (p:=⟨w.1.size,3,O⟩) ui _).far (p:=⟨w.1.size,4,O⟩) ui _⟩
theorem qjp(h:TrC w rb nv s k a z S n op 0 at')(T:k≠4):
  ua 265 #[Ag (G ⟨rb,0,O⟩)] w λe w'=>e=Ak (Ai #[I J k,I J a,I J z,Y S,I J n])/\TrC w' rb nv s 1 a 0 ⟨#[]⟩ 0 op 2 a/\Kept rb w w':=by
 have n0:¬w.1.size=rb:=uu h.lt
 have Q:¬rb=w.1.size:=uu h.lt
 have A:¬w.1.size+1=rb:=uu h.lt
 have P:¬rb=w.1.size+1:=uu h.lt
 have D:=qd (kA (w:=((w.alloc (Al #[I J 0,I J 0,I J 0,Y ⟨#[]⟩,I J 0] 171)).alloc (Al #[I J k,I J a,I J z,Y S,I J n] 171))) ((h.alloc _).alloc _) 2 a);obtain⟨lt,c0,c1,c2,c3,c4,Z,U,c7,c8,c9,fz⟩:=h;go_enter func265,ntmps265
 go_wp2_with(go_at_call 96;refine be D ?_;rintro d⟨t,q⟩;obtain⟨o,r⟩:=jZ q;have M:∀i,d.cell? ⟨w.1.size+1,i,O⟩=(#[I J k,I J a,I J z,Y S,I J n]:Array Ap)[i]?:=(λi=>(o _ i uc A).trans uc);have u:∀i,d.cell? ⟨w.1.size,i,O⟩=(#[I J 0,I J 0,I J 0,Y ⟨#[]⟩,I J 0]:Array Ap)[i]?:=(λi=>(o _ i ud n0).trans uc);have H:Xf d w.1.size:=λi=>(r _ i ud n0).trans uc;have C:=qd ((((Kept.refl rb w).alloc _).alloc _).trans q);have F:=qd t;clear q t o r)
 all_goals go_wp2
 refine bj (by simp[go_sem,u]) rfl ⟨rfl,((((F.other (b:=w.1.size) n0 0 _).other n0 1 _).other n0 2 _).other n0 3 _).other n0 4 _,((((C.far (p:=⟨w.1.size,0,O⟩) ui _).far (p:=⟨w.1.size,1,O⟩) ui _).far (p:=⟨w.1.size,2,O⟩) ui _).far (p:=⟨w.1.size,3,O⟩) ui _).far (p:=⟨w.1.size,4,O⟩) ui _⟩
theorem qth(h:TrC w rb nv s 1 a z S n op er at')(t:er≠0):
  ua 265 #[Ag (G ⟨rb,0,O⟩)] w λe w'=>e=Ak (Ai #[I J 1,I J a,I J z,Y S,I J n])/\TrC w' rb nv s 1 a 0 ⟨#[]⟩ 0 op er at'/\Kept rb w w':=by
 have n0:¬w.1.size=rb:=uu h.lt
 have T:¬rb=w.1.size:=uu h.lt
 have C:¬w.1.size+1=rb:=uu h.lt
 have Q:¬rb=w.1.size+1:=uu h.lt
 have F:=qd (qdt (w:=((w.alloc (Al #[I J 0,I J 0,I J 0,Y ⟨#[]⟩,I J 0] 171)).alloc (Al #[I J 1,I J a,I J z,Y S,I J n] 171))) ((h.alloc _).alloc _) t 2 a);obtain⟨lt,c0,c1,c2,c3,c4,Z,U,c7,c8,c9,fz⟩:=h;clear t;go_enter func265,ntmps265
 go_wp2_with(go_at_call 96;refine be F ?_;rintro d⟨u,q⟩;obtain⟨o,r⟩:=jZ q;have P:∀i,d.cell? ⟨w.1.size+1,i,O⟩=(#[I J 1,I J a,I J z,Y S,I J n]:Array Ap)[i]?:=(λi=>(o _ i uc C).trans uc);have A:∀i,d.cell? ⟨w.1.size,i,O⟩=(#[I J 0,I J 0,I J 0,Y ⟨#[]⟩,I J 0]:Array Ap)[i]?:=(λi=>(o _ i ud n0).trans uc);have M:Xf d w.1.size:=λi=>(r _ i ud n0).trans uc;have D:=qd ((((Kept.refl rb w).alloc _).alloc _).trans q);have H:=qd u;clear q u o r)
 all_goals go_wp2
 refine bj (by simp[go_sem,A]) rfl ⟨rfl,((((H.other (b:=w.1.size) n0 0 _).other n0 1 _).other n0 2 _).other n0 3 _).other n0 4 _,((((D.far (p:=⟨w.1.size,0,O⟩) ui _).far (p:=⟨w.1.size,1,O⟩) ui _).far (p:=⟨w.1.size,2,O⟩) ui _).far (p:=⟨w.1.size,3,O⟩) ui _).far (p:=⟨w.1.size,4,O⟩) ui _⟩
end
inductive PS where
 | st (x:St)
 | er (en pl:Int)
def AT(w:Ao)(rb:Nat)(nv:Ap)(s:ByteArray)(op:Nat):PS->Prop
 | .st x=>TrC w rb nv s (rK x.tk.A) x.M (tkZ x) (BS (tkS x)) (tkN x) op 0 0/\Fine s x/\x.op=op
 | .er en pl=>en≠0/\∃a,TrC w rb nv s 1 a 0 ⟨#[]⟩ 0 op en pl
def qjb(s:ByteArray)(c:Int):PS->PS
 | .st x=>if x.tk.A=c then .st (qh s x) else .er 2 x.M
 | .er en pl=>.er en pl
def qhx(s:ByteArray):PS->PS
 | .st x=>if x.tk.A=4 then .st (qh s x) else .er 2 x.M
 | .er en pl=>.er en pl
theorem qgq(h:y.tk.A=c):qjb s c (.st y)=.st (qh s y):=bo h
theorem qgp(h:¬y.tk.A=c):qjb s c (.st y)=.er 2 y.M:=ak h
theorem qce(h:y.tk.A=4):qhx s (.st y)=.st (qh s y):=bo h
theorem qcd(h:¬y.tk.A=4):qhx s (.st y)=.er 2 y.M:=ak h
def vqc:PS->ByteArray->Prop
 | .st x,S=>S=BS (tkS x)
 | .er _ _,_=>True
section
variable {w:Ao} {rb:Nat} {nv:Ap} {s:tq} {op:Nat} {x:PS}
theorem AT.c0(h:AT w rb nv s op x):Xc w rb 0 nv:=by
 cases x with
 | st x=>exact h.1.c0
 | er en pl=>obtain⟨_,a,h⟩:=h;exact h.c0
theorem AT.tr(h:AT w rb nv s op x)(d:But L w w')(e:rb≠L):AT w' rb nv s op x:=by
 cases x with
 | st x=>exact⟨d.tr e h.1,h.2⟩
 | er en pl=>obtain⟨i,a,h⟩:=h;exact⟨i,a,d.tr e h⟩
theorem vqh(h:AT w rb nv s op (.st y))(o:s.size<=200)(t:y.tk.A≠1):
  ua 94 #[Ag (G ⟨rb,0,O⟩)] w λe w'=>e=Ak (Aj #[])/\Kept rb w w'/\AT w' rb nv s op (.st (qh s y)):=by
 obtain⟨d,i,q⟩:=h;rw[show tkZ y=(y.B:Int) by unfold tkZ;rw[ak t]]at d;refine be (yu d o i.B (yK s y)) ?_;rintro w'⟨u,r⟩;exact⟨rfl,r,u,qG s y i.B,q⟩
theorem vn3(h:AT w rb nv s op x)(A:s.size<=200)(c:Int)(F:kwT c=X.data.toList)(H:5<=c)(M:c<=28)(r:rK c=kind):
  ua 264 #[Ag (G ⟨rb,0,O⟩),I J kind,Y X] w λe w'=>e=Ak (Aj #[])/\Kept rb w w'/\AT w' rb nv s op (qjb s c x):=by
 cases x with
 | st y=>
  have q:=isK (st:=y) F H M kind r;obtain⟨d,u,C⟩:=h
  by_cases hc:y.tk.A=c
  .rw[qgq hc]
   rw[hc,om]at q;rw[show tkZ y=(y.B:Int) by unfold tkZ;rw[ak ub]]at d;have D:(rK c==kind)=true/\((BS (tkS y)).toList==X.toList)=true:=by simpa using q
   refine be (qr7 d A u.B (yK s y) kind X (by rw[hc];exact r) D.2) ?_;rintro w'⟨o,i⟩;exact⟨rfl,i,o,qG s y u.B,C⟩
  rw[qgp hc];rw[show(y.tk.A==c)=false from bh.2 hc]at q;refine be (qhj d kind X q) ?_;rintro w'⟨o,i⟩;exact⟨rfl,i,ue,_,o⟩
 | er en pl=>
  obtain⟨t,a,d⟩:=h;refine be (qk2 d t kind X (by rw[<-r];unfold rK;rw[ak ub];split<;>decide)) ?_;rintro w'⟨o,i⟩;exact⟨rfl,i,t,a,o⟩
theorem vqi(h:AT w rb nv s op x)(t:s.size<=200):
  ua 265 #[Ag (G ⟨rb,0,O⟩)] w λe w'=>∃(k a z:Int) (S:tq) (n:Int),e=Ak (Ai #[I J k,I J a,I J z,Y S,I J n])/\Kept rb w w'/\AT w' rb nv s op (qhx s x)/\vqc x S:=by
 cases x with
 | st y=>
  obtain⟨d,r,u⟩:=h
  by_cases hc:y.tk.A=4
  .rw[qce hc]
   rw[show tkZ y=(y.B:Int) by unfold tkZ;rw[ak ub],show rK y.tk.A=4 by rw[hc];rfl]at d;refine be (qjq d t r.B (yK s y)) ?_;rintro w'⟨o,i⟩;exact⟨_,_,_,_,_,rfl,i,⟨o,qG s y r.B,u⟩,rfl⟩
  rw[qcd hc];refine be (qjp d (by unfold rK;split<;>(try split)<;>omega)) ?_;rintro w'⟨o,i⟩;exact⟨_,_,_,_,_,rfl,i,⟨ue,_,o⟩,rfl⟩
 | er en pl=>
  obtain⟨q,a,d⟩:=h;refine be (qth d q) ?_;rintro w'⟨o,i⟩;exact⟨_,_,_,_,_,rfl,i,⟨q,a,o⟩,trivial⟩
theorem vs4(h:AT w rb nv s op x)(C:NodesAt w rb nv ns)(t:ns.length<=100000)(p:Pay)(hp:p.K=0)(ins:List Nat)(neg:Bool)(o:BS (qH p.op)=N)(M:BS p.V=S)(P:BS p.h=E)(A:RowOf w rb 3 iv (pP ins))(u:RowOf w rb 9 lv (qx p.P)):
  ua 132 #[Ag (G ⟨rb,0,O⟩),Ai #[Y N,I J p.M,iv,Y S,Y E,lv,I J 0,Ah neg,I J 0]] w
   λe w'=>e=Ak (I J ns.length)/\TKept rb w w'/\∃d,AT w' rb d s op x/\NodesAt w' rb d (ns++[jC p ins neg]):=by
 subst o M P;have D:(jC p ins neg).K=p.K:=rfl
 cases x with
 | st y=>
  have:=qa5 h.1 C (jC p ins neg) A u t;rw[D,hp]at this;refine be this ?_;rintro w'⟨q,d,r,i⟩;exact⟨rfl,q,d,⟨r,h.2⟩,i⟩
 | er en pl=>
  obtain⟨F,a,H⟩:=h;have:=qa5 H C (jC p ins neg) A u t;rw[D,hp]at this;refine be this ?_;rintro w'⟨q,d,r,i⟩;exact⟨rfl,q,d,⟨F,a,r⟩,i⟩
end
structure Mid(rb L:Nat)(w w':Ao):Prop where
 os:w'.os=w.os
 tape:w'.tape=w.tape
 output:w'.output=w.output
 size:w.1.size<=w'.1.size
 block:∀k,k<w.1.size->k≠rb->k≠L->w'.1[k]?=w.1[k]?
section
variable {L rb:Nat} {w w' w'':Ao} {ty:TypeId} {cs:Array Ap}
theorem Mid.refl(rb L:Nat)(w:Ao):Mid rb L w w:=⟨rfl,rfl,rfl,ui,λ_ _ _ _=>rfl⟩
theorem Mid.T(h:Mid rb L w w')(k:Kept rb w' w''):Mid rb L w w'':=⟨k.os.trans h.os,k.tape.trans h.tape,k.output.trans h.output,bs h.size k.size,λi e d o=>(k.block i (aq e h.size) d).trans (h.block i e d o)⟩
theorem Mid.but(h:Mid rb L w w')(k:But L w' w''):Mid rb L w w'':=⟨k.os.trans h.os,k.tape.trans h.tape,k.output.trans h.output,bs h.size k.size,λi e o d=>(k.block i (aq e h.size) d).trans (h.block i e o d)⟩
theorem Mid.far(h:Mid rb L w w'){p:Addr}(hp:w.1.size<=p.block)(u:Ap):Mid rb L w (w'.setCell p u):=⟨h.os,h.tape,h.output,by have:=h.size;simpa using this,λi o d e=>(au w' p u i ub).trans (h.block i o d e)⟩
theorem qqv(c:Xc w rb 0 nv)(d:Xc w' rb 0 nv)(k:Nat):pO w' rb k↔pO w rb k:=by unfold pO;rw[c,d]
theorem Mid.row(h:Mid rb L w w')(c:Xc w rb 0 nv)(D:Xc w' rb 0 nv)(hv:VN w rb L ty cs)(o:ty'≠ty)(i:RowOf w rb ty' v vs):RowOf w' rb ty' v vs:=by
 rcases i with i|⟨g,cap,C,fr,hv',t,d,r,q⟩;exact Am i;have G:g≠L:=λe=>by subst e;rw[hv.blk]at d;injection d with e;injection e with _ A _;exact o A.symm
 have F:=(cf.1 d).1;exact An ⟨g,cap,C,fr,hv',t,(h.block g F ub G).trans d,λu=>r ((qqv c D g).1 u),q⟩
theorem Mid.nodes(h:Mid rb L w w')(c:Xc w rb 0 nv)(A:Xc w' rb 0 nv)(hv:VN w rb L ty cs)(H:(3:TypeId)≠ty)(G:(9:TypeId)≠ty)(F:NodesAt w rb nv ns):NodesAt w' rb nv ns:=by
 obtain⟨C,D,d,q⟩:=F;refine⟨C,D,vj d λg o=>h.block g (d.lt g o).2 (uu ((d.lt g o).1)) (λe=>hv.no (An ⟨nv,c,e ▸ o⟩)),λi n r u t=>⟨h.row c A hv H (q i n r u t).1,h.row c A hv G (q i n r u t).2⟩⟩
theorem TKept.mid{a:Ao}(d:TKept rb a w)(h:Mid rb L w w')(c:Xc w rb 0 nv)(r:Xc w' rb 0 nv)(hp:a.1.size<=L):TKept rb a w':=
 ⟨h.os.trans d.os,h.tape.trans d.tape,h.output.trans d.output,bs d.size h.size,λk i o=>(h.block k (aq i d.size) (λe=>o (Am e)) ub).trans (d.block k i o),λk i q=>d.own k i ((qqv c r k).1 q)⟩
end
structure AmV(W:Ao)(rb L Tb:Nat)(cs:Ap->Array Ap)(lv:Ap)(ts:List (List UInt8))(wr:Ao):Prop where
 mid:Mid rb L W wr
 nb:wr.1[L]?=G (Al (cs lv) 178 (0,0))
 tb:∃k a z S n,wr.1[Tb]?=G (Al #[I J k,I J a,I J z,Y S,I J n] 171 (0,0))
 tp:W.1.size<=Tb
 row:wr.ownsRow W.1.size 9 1 lv ts.length (qx ts)
section
variable {W:Ao} {rb L Tb:Nat} {cs:Ap->Array Ap} {lv:Ap} {ts:List tu} {wr w':Ao}
theorem AmV.T(h:AmV W rb L Tb cs lv ts wr)(u:L<W.1.size)(A:rb<L)(d:Kept rb wr w'):AmV W rb L Tb cs lv ts w':=by
 obtain⟨mid,q,⟨k,a,z,S,n,e⟩,o,row⟩:=h;have t:=mid.size;have r:=(cf.1 e).1;exact⟨mid.T d,(d.block L ub ub).trans q,⟨k,a,z,S,n,(d.block Tb r ub).trans e⟩,o,vj row λg i=>d.block g (row.lt g i).2 (uu ((row.lt g i).1))⟩
theorem kh{c:Array Ap}(h:w.1[b]?=G (Al c ty (0,0))):(∀i,w.cell? ⟨b,i,O⟩=c[i]?)/\Xf w b:=
 ⟨λi=>by simp[World.cell?,h],λi=>by simp[World.frozen?,h]⟩
theorem pJ{c:Array Ap}(h:w.1[b]?=G (Al c ty (0,0)))(i:Nat)(u:Ap):(w.setCell ⟨b,i,O⟩ u).1[b]?=G (Al (c.setIfInBounds i u) ty (0,0)):=by
 simp[World.setCell,ij,h]
theorem AmV.tok(h:AmV W rb L Tb cs lv ts wr)(H:L<W.1.size)(k a z:Int)(S:tq)(n:Int):
  AmV W rb L Tb cs lv ts (((((wr.setCell ⟨Tb,0,O⟩ (I J k)).setCell ⟨Tb,1,O⟩ (I J a)).setCell ⟨Tb,2,O⟩ (I J z)).setCell ⟨Tb,3,O⟩ (Y S)).setCell ⟨Tb,4,O⟩ (I J n)):=by
 obtain⟨mid,u,⟨F,P,D,Q,n0,r⟩,i,row⟩:=h
 have q:∀g,lv.ownBlock=G g->g≠Tb:=by
  intro g d e;obtain⟨_,A|⟨M,cap,cur,rfl,_,t,_⟩⟩:=row;rw[A.1]at d;cases d;injection d with d;subst d;subst e;rw[r]at t;injection t with e;injection e with _ C _;exact absurd C ue
 have o:L≠Tb:=ub;refine⟨((((mid.far (p:=⟨Tb,0,O⟩) i _).far (p:=⟨Tb,1,O⟩) i _).far (p:=⟨Tb,2,O⟩) i _).far (p:=⟨Tb,3,O⟩) i _).far (p:=⟨Tb,4,O⟩) i _, ?_,⟨k,a,z,S,n,pJ (pJ (pJ (pJ (pJ r 0 _) 1 _) 2 _) 3 _) 4 _⟩,i,vj row λg d=>?_⟩;rw[au _ ⟨Tb,4,O⟩ _ L o,au _ ⟨Tb,3,O⟩ _ L o,au _ ⟨Tb,2,O⟩ _ L o,au _ ⟨Tb,1,O⟩ _ L o,au _ ⟨Tb,0,O⟩ _ L o];exact u;have hg':=q g d;rw[au _ ⟨Tb,4,O⟩ _ g hg',au _ ⟨Tb,3,O⟩ _ g hg',au _ ⟨Tb,2,O⟩ _ g hg',au _ ⟨Tb,1,O⟩ _ g hg',au _ ⟨Tb,0,O⟩ _ g hg']
theorem AmV.app(h:AmV W rb L Tb cs lv ts wr)(hL:L<W.1.size)(aM:rb<L)(I6:∀u v,(cs u).setIfInBounds 5 v=cs v)(hn:ts.length<=1000)(S:tq):
  ∃g cap d,(qe9 #[31,31] 31 #[lv,C (G ⟨wr.1.size,0,O⟩) 1 1]).run prog (wr.alloc (Al #[Y S] 9))=.ok (C (G ⟨g,0,O⟩) (ts.length+1) cap) d /\
   d.1[L]?=G (Al (cs lv) 178 (0,0))/\(d.1[rb]?=wr.1[rb]?)/\wr.1.size<=d.1.size /\
   AmV W rb L Tb cs (C (G ⟨g,0,O⟩) (ts.length+1) cap) (ts++[S.data.toList]) (d.setCell ⟨L,5,O⟩ (C (G ⟨g,0,O⟩) (ts.length+1) cap)):=by
 obtain⟨mid,Q,⟨k0,a0,U,S0,n0,F⟩,Z,row⟩:=h;obtain⟨i,hi,F5,B8,D4⟩:=info_parts qcz;have hz:=mid.size;have VW:=(cf.1 F).1;have q:Xb wr (wr.alloc (Al #[Y S] 9)):=uj.alloc ui _;obtain⟨g,cap,d,hr,dS,t,_,_⟩:=run_append_lies (P:=prog) (wr.alloc (Al #[Y S] 9)) 31 31 W.1.size 9 i _ 1 16 underlying31 hi F5 B8 D4 rfl ub lv ts.length _ (World.ownsRow.alloc row _) ⟨wr.1.size,0,O⟩ 1 1 [Y S] rfl
  (by
   intro j u H;rcases j with _|j
   .simp at H;subst H;simp[Addr.add]
   .simp at H) (by simp[Value.oneCell']) ub (by unfold maxLen;omega) ub ud _ rfl
 have o:∀g,lv.ownBlock=G g->g≠Tb/\W.1.size<=g:=by
  intro g r;refine⟨λe=>?_,(row.lt g r).1⟩;obtain⟨_,hx|⟨g',cap,cur,rfl,_,T,_⟩⟩:=row;rw[hx.1]at r;cases r;injection r with r;subst r;subst e;rw[F]at T;injection T with e;injection e with _ e2 _;exact absurd e2 ue
 have D:∀k,k<wr.1.size->lv.ownBlock≠G k->d.1[k]?=wr.1[k]?:=λk A bG=>(t.block k (aq A q.size) (λe=>bG e.symm)).trans (q.block k A)
 have M:d.1[L]?=wr.1[L]?:=D L ub (λe=>uu ((o L e).2));have J:d.1[Tb]?=wr.1[Tb]?:=D Tb VW (λe=>(o Tb e).1 rfl);have eL:d.1[rb]?=wr.1[rb]?:=D rb ub (λe=>uu ((o rb e).2));have I:Mid rb L W d:=⟨(t.os.trans q.os).trans mid.os,(t.tape.trans q.tape).trans mid.tape,(t.output.trans q.output).trans mid.output,bs (bs hz q.size) t.size,λk A h1 h2=>(D k ub (λe=>uu ((o k e).2))).trans (mid.block k A h1 h2)⟩;refine⟨g,cap,d,hr,M.trans Q,eL,bs q.size t.size,I.but ((But.refl L d).set 5 _), ?_,⟨k0,a0,U,S0,n0, ?_⟩,Z, ?_⟩;rw[pJ (M.trans Q),I6]
 .rw[au _ ⟨L,5,O⟩ _ Tb (by show Tb≠L;omega)];exact J.trans F
 rw[ce,qx,dq];exact ownsRow_setCell_below dS (by show L<_;omega) _
end
section
attribute [local go_sem ↓] vsj
theorem TrC.blk{n op:Int}(h:TrC w rb nv s k a z S n op er at')(e:w'.1[rb]?=w.1[rb]?):TrC w' rb nv s k a z S n op er at':=by
 have d:∀j,w'.cell? ⟨rb,j,O⟩=w.cell? ⟨rb,j,O⟩:=λj=>aw (w:=w) (w':=w') (a:=⟨rb,j,O⟩) e
 have i:∀j,w'.frozen? ⟨rb,j,O⟩=w.frozen? ⟨rb,j,O⟩:=λj=>cn (w:=w) (w':=w') (a:=⟨rb,j,O⟩) e
 exact⟨mq w' ⟨rb,0,O⟩ ((d 0).trans h.c0),(d _).trans h.c0,(d _).trans h.c1,(d _).trans h.c2,(d _).trans h.c3,(d _).trans h.c4,(d _).trans h.c5,(d _).trans h.c6,(d _).trans h.c7,(d _).trans h.c8,(d _).trans h.c9,λj=>(i j).trans (h.fz j)⟩
theorem AT.blk{x:PS}(h:AT w rb nv s op x)(d:w'.1[rb]?=w.1[rb]?):AT w' rb nv s op x:=by
 cases x with
 | st x=>exact⟨h.1.blk d,h.2⟩
 | er en pl=>obtain⟨e,a,h⟩:=h;exact⟨e,a,h.blk d⟩
theorem vhk(h:AT w rb nv s op (.st y)):meT s w rb=s.size+2 - y.M:=by
 have e:=h.1.c3;have d:=h.1.c8;unfold meT plT;rw[d,e];simp
theorem vpk(h:AT w rb nv s op (.er en pl)):meT s w rb=0:=by
 obtain⟨d,a,h⟩:=h;unfold meT;rw[h.c8];simp only;rw[ak d]
theorem tis(h:AT w rb nv s op (.st y))(c:Int)(i:kwT c=X.data.toList)(o:5<=c)(q:c<=28)(d:rK c=kind):
  ua 131 #[Ag (G ⟨rb,0,O⟩),I J kind,Y X] w λe w'=>e=Ak (Ah (y.tk.A==c))/\w'=w:=by
 have:=gi h.1 kind X;rwa [isK i o q kind d]at this
def qi9(s:ByteArray)(l:Ast)(pl lo:Nat)(R:Res)(ts:List (List UInt8))(n:Nat):PS->Prop
 | .st sl=>R=zQ s l pl n ts sl/\s.size<n+sl.M/\ts.length<=sl.M/\lo<sl.M
 | .er en p=>R=.err en p/\ts.length<=300
def vs8(W:Ao)(rb L Tb:Nat)(cs:Ap->Array Ap)(nv:Ap)(s:ByteArray)(op:Nat)(l:Ast)(pl:Nat)(R:Res)(wr:Ao):Prop:=
 ∃x lv ts n,AmV W rb L Tb cs lv ts wr/\AT wr rb nv s op x/\qi9 s l pl pl R ts n x
theorem vnk{pl:Nat}{x:PS}(e:s.size<=200)(h:AT w rb nv s op x)(d:qi9 s l pl lo R ts n x):ts.length<=300:=by
 cases x with
 | st y=>have:=h.2.1.M;have:=d.2.2.1;omega
 | er en p=>exact d.2
theorem vbu(i:Fine s st)(A:st.tk.A=11)(d:vqc (qjb s 26 (.st (qh s st))) S):qi9 s l st.M st.M (xE s l st) ([]++[S.data.toList]) (s.size+1) (qhx s (qjb s 26 (.st (qh s st)))):=by
 have o:=qG s st i.B;have u:=i.W ub;unfold xE
 by_cases k26:(qh s st).tk.A=26
 .rw[qgq k26]at d |-
  rw[bo k26];have q:=qG s _ o.B;have t:=o.W ub
  by_cases k4:(qh s (qh s st)).tk.A=4
  .rw[qce k4,bo k4]
   have r:=q.W ub
   have e:S.data.toList=(qh s (qh s st)).tk.V:=by
    rw[show S=BS (tkS (qh s (qh s st))) from d,xB];unfold tkS rS;rw[ak ub,bo ub]
   rw[lj,e];exact⟨rfl,ub,ud,ub⟩
  rw[qcd k4,ak k4];exact⟨rfl,uc⟩
 rw[qgp k26,ak k26];exact⟨rfl,uc⟩
theorem vin{pl:Nat}(C:s.size<=200)(i:Fine s sl)(o:sl.tk.A=28)(h:qi9 s l pl lo R ts n (.st sl))(r:vqc (.st (qh s sl)) S):∃d,qi9 s l pl lo R (ts++[S.data.toList]) d (qhx s (.st (qh s sl))):=by
 obtain⟨q,D,A,F⟩:=h;have hp:=i.M;obtain⟨d,rfl⟩:∃d,n=d+1:=⟨n - 1,ub⟩;have t:=qG s sl i.B;have u:=i.W ub
 by_cases k4:(qh s sl).tk.A=4
 .have p2:=t.W ub
  have e:S.data.toList=(qh s sl).tk.V:=by
   rw[show S=BS (tkS (qh s sl)) from r,xB];unfold tkS rS;rw[ak ub,bo ub]
  rw[qce k4,e];exact⟨d,by rw[q,qcv o k4],ub,ud,ub⟩
 rw[qcd k4];exact⟨0,by rw[q,qew o k4],ud⟩
theorem vh8{pl:Nat}{x:PS}(Z:s.size<=200)(hm:201<=m){O:Ao}{q:Ap}{ns new:List RN}{neg:Bool}{o:Int}(T:i0=ns.length+new.length - 1)(M:Flat l ns.length new)(u:(ns++new).length+j<=pl)(Q6:pl<=200)
  (P:AT O rb q s op x) (C:qi9 s l pl pl R ts n x) (H:∀y,x=.st y->¬y.tk.A=28) (Q:TKept rb w w') (d:AT w' rb nv s op (qjb s 27 x)) (i:NodesAt w' rb nv ((ns++new)++[jC ⟨21,pl,0,[],[],ts⟩ [i0] neg])) {v:Int} (hv:v=((ns++new).length:Nat)) :
  REnds rb s w op m ns j pl (vee neg o R) (Ak (I J v)) w':=by
 subst hv;refine⟨Q, ?_⟩
 cases x with
 | er en p=>
  rw[show R=.err en p from C.1];obtain⟨r,a,e⟩:=d;exact⟨_,rfl,nv,a,_,e,r,i,by simp at u |-;omega⟩
 | st sl=>
  obtain⟨F,hn,Y,eP⟩:=C;have G:=P.2.1;have hp:=G.M;obtain⟨A,rfl⟩:∃A,n=A+1:=⟨n - 1,ub⟩
  by_cases k27:sl.tk.A=27
  .rw[qgq k27]at d
   have U:=G.W ub;rw[show R=.ok (.un ⟨21,pl,0,[],[],ts⟩ l) (qh s sl) by rw[F,qex (H sl rfl) k27]];obtain⟨e,t,D⟩:=d;rw[bu]at i;refine⟨new++[jC ⟨21,pl,0,[],[],ts⟩ [i0] neg],jd uc,⟨nv, ?_,i,t,by simp at u |-;omega⟩,D,ub, ?_⟩;rw[D];exact e;subst T
   cases neg with
   | false=>exact Flat.un _ M
   | true=>exact Flat.neg1 _ _ (Am rfl) M
  rw[qgp k27]at d;rw[show R=.err 2 sl.M by rw[F,qcw (H sl rfl) k27]];obtain⟨r,a,e⟩:=d;exact⟨_,rfl,nv,a,_,e,r,i,by simp at u |-;omega⟩
theorem vim(d:Fine s (qh s sl))(e:sl.M<(qh s sl).M)(q:(qh s sl).M<=s.size)(h:AT w rb nv s op (qhx s (.st (qh s sl)))):meT s w rb<s.size+2 - sl.M:=by
 by_cases k4:(qh s sl).tk.A=4
 rw[qce k4]at h;rw[vhk h];have o:=zp s (qh s sl);have i:=d.long ub;omega;rw[qcd k4]at h;rw[vpk h];omega
theorem qk4(d:w.ownsRow B 9 1 lv n (qx ts))(i:rb<B)(h:∀k,B<=k->¬pO w rb k):RowOf w rb 9 lv (qx ts):=by
 have o:=d;obtain⟨r,e|⟨g,cap,cur,rfl,q,_⟩⟩:=d;obtain⟨rfl,rfl⟩:=e;rw[de (by omega:(qx ts).length=0)];exact RowOf.no _ _ _;exact qyg o i (h g q)
theorem qf3(rb:Nat)(s:tq)(q:s.size<=200)(op m:Nat)(hm:201<=m)(w:Ao)(st:St)(ns new:List RN)(j:Nat)(l:Ast)(h:RT w rb s (ns++new) j st)(ho:st.op=op)(hk:st.tk.A=11)(E6:Flat l ns.length new)(i0:Nat)(O8:i0=ns.length+new.length - 1)(g:Nat)(hg:VN w rb g 3 #[I J i0])(neg:Bool)(pl0:Int):
  ua 242 #[Ag (G ⟨rb,0,O⟩),Ai #[Y ⟨#[]⟩,I J st.M,C (G ⟨g,0,O⟩) 1 1,Y ⟨#[]⟩,Y ⟨#[]⟩,C O 0 0,I J 0,Ah neg,I J 0]] w (REnds rb s w op m ns j st.M (vee neg pl0 (xE s l st))):=by
 have A1:=h.lt;have n0:¬w.1.size=rb:=ub;have n1:¬rb=w.1.size:=ub;have VT:VN (w.alloc (Al #[Y ⟨#[73,78]⟩,I J st.M,C (G ⟨g,0,O⟩) 1 1,Y ⟨#[]⟩,Y ⟨#[]⟩,C O 0 0,I J 0,Ah neg,I J 0] 178)) rb w.1.size 178 #[Y ⟨#[73,78]⟩,I J st.M,C (G ⟨g,0,O⟩) 1 1,Y ⟨#[]⟩,Y ⟨#[]⟩,C O 0 0,I J 0,Ah neg,I J 0]:=VN.new h _ _ rfl;have wQ:TKept rb w (w.alloc (Al #[Y ⟨#[73,78]⟩,I J st.M,C (G ⟨g,0,O⟩) 1 1,Y ⟨#[]⟩,Y ⟨#[]⟩,C O 0 0,I J 0,Ah neg,I J 0] 178)):=(TKept.refl rb w).alloc A1 _;have PQ:VN (w.alloc (Al #[Y ⟨#[73,78]⟩,I J st.M,C (G ⟨g,0,O⟩) 1 1,Y ⟨#[]⟩,Y ⟨#[]⟩,C O 0 0,I J 0,Ah neg,I J 0] 178)) rb g 3 #[I J i0]:=hg.alloc A1 _;have DO:RowOf (w.alloc (Al #[Y ⟨#[73,78]⟩,I J st.M,C (G ⟨g,0,O⟩) 1 1,Y ⟨#[]⟩,Y ⟨#[]⟩,C O 0 0,I J 0,Ah neg,I J 0] 178)) rb 3 (C (G ⟨g,0,O⟩) 1 1) (pP [i0]):=An ⟨g,1,#[I J i0],(0,0),rfl,PQ.past,PQ.blk,PQ.no,λj u hu=>by simpa [pP]using hu⟩;have J1:=h.few;have J7:=h.U;have OV:=J7.M;have h0:=h.alloc (Al #[Y ⟨#[73,78]⟩,I J st.M,C (G ⟨g,0,O⟩) 1 1,Y ⟨#[]⟩,Y ⟨#[]⟩,C O 0 0,I J 0,Ah neg,I J 0] 178);have JL:=h0.own_lt;obtain⟨nv,VX,WA,_,_⟩:=h0;have GT:AT (w.alloc (Al #[Y ⟨#[73,78]⟩,I J st.M,C (G ⟨g,0,O⟩) 1 1,Y ⟨#[]⟩,Y ⟨#[]⟩,C O 0 0,I J 0,Ah neg,I J 0] 178)) rb nv s op (.st st):=⟨by rw[<-ho];exact VX,J7,ho⟩;have m9:=VX.c0;have hW:(w.alloc (Al #[Y ⟨#[73,78]⟩,I J st.M,C (G ⟨g,0,O⟩) 1 1,Y ⟨#[]⟩,Y ⟨#[]⟩,C O 0 0,I J 0,Ah neg,I J 0] 178)).1.size=w.1.size+1:=uc;have EXT:∃W:Ao,W=(w.alloc (Al #[Y ⟨#[73,78]⟩,I J st.M,C (G ⟨g,0,O⟩) 1 1,Y ⟨#[]⟩,Y ⟨#[]⟩,C O 0 0,I J 0,Ah neg,I J 0] 178)):=⟨_,rfl⟩;obtain⟨W,PE⟩:=EXT;rw[<-PE]at VT wQ DO JL WA GT m9 hW;have HWe:=qd PE;have ST0:=qd (vqh GT q ub);rw[PE]at ST0;have Z:=qd VT;have mE:=qd wQ;have mC:=qd DO;have IC:=qd WA;have F:=qd m9;have HOW:=qd JL;have P4:=qd E6;have cH:=qd O8;obtain⟨R,hR⟩:∃r,xE s l st=r:=⟨_,rfl⟩;have bA:Hid (∀S,vqc (qjb s 26 (.st (qh s st))) S->qi9 s l st.M st.M R ([]++[S.data.toList]) (s.size+1) (qhx s (qjb s 26 (.st (qh s st))))):=qd λS hS=>hR ▸ vbu J7 hk hS
 rw[hR];obtain⟨CSX,DV⟩:∃f:Ap->Array Ap,f=λlv=>#[Y ⟨#[73,78]⟩,I J st.M,C (G ⟨g,0,O⟩) 1 1,Y ⟨#[]⟩,Y ⟨#[]⟩,lv,I J 0,Ah neg,I J 0]:=⟨_,rfl⟩
 have AH:=qd DV;have KW:∀u v,(CSX u).setIfInBounds 5 v=CSX v:=by rw[DV];intro u v;rfl
 have HC5:=qd KW;go_enter func242,ntmps242
 go_wp2_with(first|(go_at_call 94;refine be ST0 ?_;rintro w1⟨A4,GJ⟩;have J8:=qd (by rw[<-q9 HWe]at A4;exact A4:Kept rb W w1);have sQ:=qd GJ)|(go_at_call 264;refine be (vn3 sQ q 26 rfl ue ue rfl) ?_;rintro w2⟨A8,sF⟩;have N7:=qd (J8.trans A8);have HA2:=qd sF)|(go_at_call 265;refine(vqi HA2 q).mono ?_;rintro e d⟨tk,Q,M,t,P,rfl,D7,LK,mY⟩;have dF:=(q9 N7).trans D7;have P9:=dF.size;have hB:=But.alloc (But.refl w.1.size d) (Al #[I J tk,I J Q,I J M,Y t,I J P] 171);have hAm:AmV W rb w.1.size d.1.size CSX (C O 0 0) [] (d.alloc (Al #[I J tk,I J Q,I J M,Y t,I J P] 171)):=⟨((Mid.refl rb w.1.size W).T dF).but hB,(((Below.refl d.1.size d).alloc ui _).block _ ub).trans ((dF.block _ ub n0).trans (Z.blk.trans (by rw[q9 AH]))),⟨tk,Q,M,t,P,heap_alloc_new d _⟩,P9,dy _ _ _ _⟩;have hAT:=LK.blk (hB.block rb ub n1);obtain⟨g6,U5,w6,cD,sL,eL,ZY,LY⟩:=hAm.app ub ub HC5 uc t;have hap6':(qe9 #[31,31] 31 #[C O 0 0,C (G ⟨d.1.size+1,0,O⟩) 1 1]).run prog ((d.alloc (Al #[I J tk,I J Q,I J M,Y t,I J P] 171)).alloc (Al #[Y t] 9))=.ok (C (G ⟨g6,0,O⟩) 1 U5) w6:=(by have:=cD;rw[my]at this;exact this);have p5:Xc d w.1.size 5 (C O 0 0):=(aw (w:=W) (w':=d) (a:=⟨w.1.size,5,O⟩) (dF.block w.1.size ub n0)).trans (Z.cell 5);have q5:Xc w6 w.1.size 5 (C O 0 0):=((kh sL).1 5).trans (by rw[q9 AH];rfl);have qz:Xf w6 w.1.size:=(kh sL).2;have nLT:w.1.size<d.1.size:=ub;have LR:=(hAT.blk (w':=w6) eL).tr ((But.refl w.1.size w6).set 5 (C (G ⟨g6,0,O⟩) 1 U5)) n1;have QU:=qd LY;have QJ:=qd LR;have QK:=qd mY))
 go_loopw [20] (λ_ wr=>Hid (vs8 W rb w.1.size d.1.size CSX nv s op l st.M R wr)) (λ_ wr=>meT s wr rb)
 exact qd ⟨_,_,_,_,q9 QU,q9 QJ,q9 bA _ QK⟩;obtain⟨x,lv,ts,n,iM,D,cJ⟩:=q9 hrel;have A7:=vnk q D cJ;have YT:=qd iM;have T:=qd D;have QN:=qd cJ
 cases x with
 | er en pl=>
  have c8:Xc wr rb 8 (I J en):=by obtain⟨_,a,hT⟩:=D;exact hT.c8
  have eT:(en==0)=false:=bh.2 D.1;have IM:Hid (∀y,(PS.er en pl)=.st y->¬y.tk.A=28):=qd λy e=>by cases e
  go_wp2_with(first|(go_at_call 264;refine be (vn3 T q 27 rfl ue ue rfl) ?_;rintro w7⟨aD,LJ⟩;have A:=(q9 YT).T ub ub aD;have KC:=A.mid;have JD:=A.row;obtain⟨H,z7⟩:=kh A.nb;rw[q9 AH]at H;have r0:∀i,w7.cell? ⟨w.1.size,i,O⟩=(#[Y ⟨#[73,78]⟩,I J st.M,C (G ⟨g,0,O⟩) 1 1,Y ⟨#[]⟩,Y ⟨#[]⟩,lv,I J 0,Ah neg,I J 0]:Array Ap)[i]?:=(λi=>H i);have U:=qd KC;have XD:=qd JD;have o:=qd LJ;clear aD LJ A H z7 KC JD)|(go_at_call 132;refine be (vs4 o (U.nodes F o.c0 Z ue ue IC) ub ⟨21,st.M,0,[],[],ts⟩ rfl [i0] neg rfl rfl rfl (U.row F o.c0 Z ue mC) (qk4 XD ub (λk I3 dS=>uu (q9 HOW k ((qqv F o.c0 k).1 dS))))) ?_;rintro w8⟨KH,nv8,LI,fR⟩;have YB:=qd ((mE.mid U F o.c0 ui).trans KH);have YW:=qd LI;have MY:=qd fR;clear KH LI fR))
  go_ret;exact vh8 (new:=new) q hm cH P4 J1 ub T QN IM YB YW MY uc
 | st sl=>
  have c8:Xc wr rb 8 (I J 0):=D.1.c8
  by_cases k28:sl.tk.A=28
  .have BI:(sl.tk.A==28)=true:=by rw[k28];rfl
   have hmu:=vhk D;have tM:=D.2.1;have uW:=tM.W ub;have NA:=qd hmu;have UV:=(qG s sl tM.B).M;have YF:=qd (qG s sl tM.B);have eJ:Hid (∀S,vqc (.st (qh s sl)) S->∃n',qi9 s l st.M st.M R (ts++[S.data.toList]) n' (qhx s (.st (qh s sl)))):=qd λS hS=>vin q tM k28 cJ hS
   have hsp1:=tM.M;clear iM D cJ hrel QU QJ bA QK hmu
   go_wp2_with(first|(go_at_call 131;refine be (tis T 28 (X:=⟨#[44]⟩) rfl ue ue rfl) λw' hw'=>?_;subst w';rw[BI])|(go_at_call 94;refine be (vqh T q ub) ?_;rintro w2x⟨A8,sF⟩;have YS:=qd (YT.T ub ub A8);have YU:=qd sF;clear A8 sF)|(go_at_call 265;refine(vqi YU q).mono ?_;rintro e w3x⟨tk,Q,M,t,P,rfl,D7,LK,mY⟩;have iF:=(q9 YS).T ub ub D7;obtain⟨k0,a0,z0,S0,m0,nM⟩:=iF.tb;obtain⟨y3,yz⟩:=kh nM;have y0:∀i,w3x.cell? ⟨d.1.size,i,O⟩=(#[I J k0,I J a0,I J z0,Y S0,I J m0]:Array Ap)[i]?:=(λi=>y3 i);have l5:Xc w3x w.1.size 5 lv:=((kh iF.nb).1 5).trans (by rw[q9 AH];rfl);have lF:=iF.tok ub tk Q M t P;obtain⟨g6x,cap6x,w6x,LE,sL,eL,hz6x,LY⟩:=lF.app ub ub HC5 ub t;simp only[size_setCell]at LE;have q5x:Xc w6x w.1.size 5 lv:=((kh sL).1 5).trans (by rw[q9 AH];rfl);have qzx:Xf w6x w.1.size:=(kh sL).2;have oW:¬rb=d.1.size:=ub;have LX:AT (((((w3x.setCell ⟨d.1.size,0,O⟩ (I J tk)).setCell ⟨d.1.size,1,O⟩ (I J Q)).setCell ⟨d.1.size,2,O⟩ (I J M)).setCell ⟨d.1.size,3,O⟩ (Y t)).setCell ⟨d.1.size,4,O⟩ (I J P)) rb nv s op (qhx s (.st (qh s sl))):=((((LK.tr ((But.refl d.1.size _).set 0 _) oW).tr ((But.refl d.1.size _).set 1 _) oW).tr ((But.refl d.1.size _).set 2 _) oW).tr ((But.refl d.1.size _).set 3 _) oW).tr ((But.refl d.1.size _).set 4 _) oW;have DW:=(LX.blk (w':=w6x) eL).tr ((But.refl w.1.size w6x).set 5 (C (G ⟨g6x,0,O⟩) (ts.length+1) cap6x)) n1;have ID:=qd (vim YF uW UV DW);have nLTb:¬w.1.size=d.1.size:=ub;have nLTb':¬d.1.size=w.1.size:=ub;have YX:=qd LY;have XG:=qd DW;have HS3:=qd mY;clear D7 LK mY iF nM y3 lF sL eL LY LX DW))
   go_roundw
   obtain⟨n',bG⟩:=q9 eJ _ HS3;exact qd ⟨_,_,_,n',q9 YX,q9 XG,bG⟩;rw[q9 NA];have:=q9 ID;omega
  have BI:(sl.tk.A==28)=false:=bh.2 k28;have IM:Hid (∀y,(PS.st sl)=.st y->¬y.tk.A=28):=qd λy e=>by injection e with e;subst e;exact k28
  clear iM D cJ hrel QU QJ bA QK
  go_wp2_with(first|(go_at_call 131;refine be (tis T 28 (X:=⟨#[44]⟩) rfl ue ue rfl) λw' hw'=>?_;subst w';rw[BI])|(go_at_call 264;refine be (vn3 T q 27 rfl ue ue rfl) ?_;rintro w7⟨aD,LJ⟩;have A:=(q9 YT).T ub ub aD;have KC:=A.mid;have JD:=A.row;obtain⟨H,z7⟩:=kh A.nb;rw[q9 AH]at H;have r0:∀i,w7.cell? ⟨w.1.size,i,O⟩=(#[Y ⟨#[73,78]⟩,I J st.M,C (G ⟨g,0,O⟩) 1 1,Y ⟨#[]⟩,Y ⟨#[]⟩,lv,I J 0,Ah neg,I J 0]:Array Ap)[i]?:=(λi=>H i);have U:=qd KC;have XD:=qd JD;have o:=qd LJ;clear aD LJ A H z7 KC JD)|(go_at_call 132;refine be (vs4 o (U.nodes F o.c0 Z ue ue IC) ub ⟨21,st.M,0,[],[],ts⟩ rfl [i0] neg rfl rfl rfl (U.row F o.c0 Z ue mC) (qk4 XD ub (λk I3 dS=>uu (q9 HOW k ((qqv F o.c0 k).1 dS))))) ?_;rintro w8⟨KH,nv8,LI,fR⟩;have YB:=qd ((mE.mid U F o.c0 ui).trans KH);have YW:=qd LI;have MY:=qd fR;clear KH LI fR))
  go_ret;exact vh8 (new:=new) q hm cH P4 J1 ub T QN IM YB YW MY uc
end
theorem qu5(p:tq)(hp:p.size<=200)(e:UInt8)(w:Ao):
  ua 266 #[Y p,I .u8 e.toNat] w λen w'=>en=Ak (Ah (zJ [e] p.data.toList).isSome)/\w'=w:=by
 obtain⟨R,o⟩:∃r,(zJ [e] p.data.toList).isSome=r:=⟨_,rfl⟩;rw[o];have D:=qd o;clear o;go_enter func266,ntmps266
 go_wp2
 go_loop [5] (λiv=>∃k:Nat,k<=p.size/\iv=I J k/\Hid (R=(zJ [e] (p.data.toList.drop k)).isSome)) (λiv=>p.size - (intOf iv).toNat)
 exact⟨0,bt _,rfl,qd (by rw[dw,q9 D])⟩;obtain⟨k,F,rfl,d⟩:=hrel
 by_cases A1:k<p.size
 .have bF:p.data.toList[k]?=G p[k]:=by rw[ag (by rw[qu];exact A1),qD p k A1]
  by_cases hx:p[k]=e
  .have F7:(p[k].toNat:Int)=(e.toNat:Int):=by rw[hx]
   have A:((p[k].toNat:Int)==(e.toNat:Int))=true:=by rw[F7,om]
   by_cases hl:k+1=p.size
   .have i:Hid (R=false):=qd (by rw[q9 d,qcq bF (by rw[hx];rfl) (by rw[qu];omega)];rfl)
    have C:(((k:Int)+1)==(p.size:Int))=true:=by rw[ew];omega
    have q:=qd bF;clear d bF hx
    go_wp2
    go_ret;exact⟨qY (by rw[q9 i]),rfl⟩
   have t:k+1<p.size:=ub;have u:p.data.toList[k+1]?=G p[k+1]:=by rw[ag (by rw[qu];exact t),qD p (k+1) t]
   have i:Hid (R=(zJ [e] (p.data.toList.drop (k+2))).isSome):=qd (by rw[q9 d,qg3 bF (by rw[hx];rfl) u];cases zJ [e] (p.data.toList.drop (k+2))<;>rfl);have C:(((k:Int)+1)==(p.size:Int))=false:=by rw[bh];omega
   clear d bF u hx
   go_wp2
   go_round
   case rel=>exact⟨k+2,ub,by go_num,i⟩
   simp[intOf];omega
  have A:((p[k].toNat:Int)==(e.toNat:Int))=false:=by
   rw[bh];intro h;exact hx (sk.1 ub)
  have i:Hid (R=(zJ [e] (p.data.toList.drop (k+1))).isSome):=qd (by rw[q9 d,qaw bF (λh=>hx (by injection h with h;exact h.symm))];cases zJ [e] (p.data.toList.drop (k+1))<;>rfl);clear d bF hx
  go_wp2
  go_round
  case rel=>exact⟨k+1,ub,by go_num,i⟩
  simp[intOf];omega
 have i:Hid (R=true):=qd (by rw[q9 d,qg2 (by rw[qu];omega)];rfl);clear d
 go_wp2
 go_ret;exact⟨qY (by rw[q9 i]),rfl⟩
end Go.Proofs.YtdmmmgodfceilaaGreatDoor
