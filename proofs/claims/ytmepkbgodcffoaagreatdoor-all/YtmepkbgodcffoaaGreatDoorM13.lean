/- The document's answer -/
import Derived.Test.YtmepkbgodcffoaaGreatDoorM03
import Derived.ArgAppend
set_option maxHeartbeats 64000000
set_option maxRecDepth 100000
namespace Go.Proofs.YtmepkbgodcffoaaGreatDoor
open Go.RowKit Go.Proofs.Tryz
open _root_.List renaming length->A
open Go.World renaming setCell->B,ownsRow->ue
open Go.Value renaming ownBlock->ug,agg->Ai,bool->Ah,int->I,pointer->Ag,slice->C,string->Y,tuple->Aj
open Bool renaming false->uh,true->ui
open Go.Addr renaming mk->D
open _root_.Array renaming size->Z,toList->T
open Go renaming Value->Ap,World->Ao
open Go.Ending renaming returned->Ak
open Go.IntKind renaming i64->J
open Go.Obj renaming cells->Al
open Option renaming none->O,some->G
open Or renaming inl->Am,inr->An
variable{cs:Array Ap}{l x:Ast}{E N NB S X s:uj}{e:Ending}{a at' c en er k kind o pl z:Int}{ts:List uk}{ks:List Int}{ns:List RN}{vs:List Ap}{uc F K L b cap g i0 j lo lo' m m' n op rb:Nat}{R r:Res}{sl st st' y:St}{f:St->Res}{ty ty':TypeId}{b1 b2:UInt8}{iv lv nv v:Ap}{W w w':Ao}
theorem qpa(h:st.op=12):vP s f o st=.err 3 st.U:=by simp_all [vP]
theorem qye(h:st.op<12)(d:f (p9 s st)=.ok x st'):vP s f o st=.ok (.un ⟨o,st.U,0,[],[],[]⟩ x) { st' with op:=st.op }:=by grind[vP]
theorem qsx(h:st.op<12)(d:f (p9 s st)=.err en pl):vP s f o st=.err en pl:=by grind[vP]
theorem qj2(h:st.op=12):vG s f st=.err 3 st.U:=by simp_all [vG]
theorem qri(h:st.op<12)(i:f (p9 s st)=.ok x st')(d:st'.tk.Q=27):vG s f st=.ok x { qh s st' with op:=st.op }:=by grind[vG]
theorem qrh(h:st.op<12)(i:f (p9 s st)=.ok x st')(d:¬st'.tk.Q=27):vG s f st=.err 2 st'.U:=by grind[vG]
theorem qmp(h:st.op<12)(d:f (p9 s st)=.err en pl):vG s f st=.err en pl:=by grind[vG]
theorem vf1{fS:St->Res}(h:st.op<=12):(st.op=12/\vP s fS o st=.err 3 st.U)\/(st.op<12/\((∃x st',fS (p9 s st)=.ok x st'/\vP s fS o st=.ok (.un ⟨o,st.U,0,[],[],[]⟩ x) { st' with op:=st.op })\/∃en pl,fS (p9 s st)=.err en pl/\vP s fS o st=.err en pl)):=by
 by_cases I2:st.op=12
 .grind[qpa]
 have d:st.op<12:=uq;refine An ⟨d, ?_⟩;cases hf:fS (p9 s st)<;>grind[qye,qsx]
theorem qp4{b:UInt8}(T:(b=43/\N=⟨#[112]⟩/\k=22/\o=14)\/(b=45/\N=⟨#[110]⟩/\k=23/\o=15))(rb:Nat)(s:uj)(hs:s.size<=200)(op m:Nat)(hm:200<=m)(dR:m<=900)(I4:op<=12)(fS:St->Res)(hS:op<12->RReads 293 rb s (op+1) m fS)(eS:xY 293 rb s)(w:Ao)(st:St)(ns:List RN)(j:Nat)(h:RT w rb s ns j st)(P:st.op=op)(hk:st.tk.Q=k):
  uo 293 #[Ag (G (D rb 0 O))] w (REnds rb s w op (m+1) ns j st.U (vP s fS o st)):=by
 obtain⟨c2,c3,c4,c5,c6⟩:=h.ct;have c8:=h.c8;have A1:=h.lt;have n0:¬Z w.1=rb:=uq;have n1:¬rb=Z w.1:=uq;have J8:22<=st.tk.Q/\st.tk.Q<=23:=uq;rw[show rK st.tk.Q=5 by obtain⟨_,_,rfl,_⟩|⟨_,_,rfl,_⟩:=T<;>rw[hk]<;>rfl]at c2;rw[show tkZ st=(st.H:Int) by grind[tkZ]]at c4;rw[show BS (tkS st)=⟨#[b]⟩ by rw[vft uq];obtain⟨rfl,_,rfl,_⟩|⟨rfl,_,rfl,_⟩:=T<;>rw[hk]<;>rfl]at c5;rw[show tkN st=st.tk.M by grind[tkN]]at c6;have hN:BS (qJ o)=N:=by obtain⟨_,rfl,_,rfl⟩|⟨_,rfl,_,rfl⟩:=T<;>rfl
 have FR:=qd (h.fresh (Al #[I J 5,I J st.U,I J st.H,Y ⟨#[b]⟩,I J st.tk.M] 171));have H':=qd (h.alloc (Al #[I J 5,I J st.U,I J st.H,Y ⟨#[b]⟩,I J st.tk.M] 171));have P3:=qd λ(W:Ao) (h:W.cell? ⟨Z w.1,3,O⟩=(w.alloc (Al #[I J 5,I J st.U,I J st.H,Y ⟨#[b]⟩,I J st.tk.M] 171)).cell? ⟨Z w.1,3,O⟩)=>h.trans (show _=G (Y ⟨#[b]⟩) by simp)
 have RU:=qd λ(W:Ao) (l:List RN) (N0:St) (j i g:Nat) (h:RT W rb s l (j+1) N0) (hg:g=Z W.1)=>vdk h hs ⟨o,st.U,0,[],[],[]⟩ i hN rfl rfl rfl hg
 have RV:=qd λ(W:Ao) (en pl:Int) (op m i g:Nat) (h:RE W rb s en pl op m) (hm:m<=1000) (hg:g=Z W.1)=>qhk h hm (qJ o) st.U i hN hg
 have J5:=h.y.W uq;have M3:st.tk.Q≠0/\st.tk.Q≠1:=by grind
 have HS:=qd hS;have ES:=qd eS;clear h hS eS hN hk;obtain⟨u,Q⟩|⟨H,⟨x,st',d,Q⟩|⟨en,pl,d,Q⟩⟩:=vf1 (s:=s) (fS:=fS) (o:=o) (P.symm ▸ I4:st.op<=12)
 all_goals
  rw[Q];clear Q
  try(have HF:=qd d;clear d)
  obtain⟨rfl,rfl,_,_⟩|⟨rfl,rfl,_,_⟩:=T
 all_goals
  go_enter func293,ntmps293
  go_wp2_with(first|(go_at_call 216;(first|(have _q:=u;refine(qfv H' hs u).mono ?_)|refine(qfw H' hs M3.1 M3.2 H).mono ?_);rintro e w1⟨rfl,A5,C7⟩;obtain⟨q,d,_,U,hL⟩:=A5.mine ur FR;have p1:Xc w1 (Z w.1) 1 (I J st.U):=(q 1).trans ur;have p3:=q9 P3 _ (q 3);have DL:=qd U;have L8:=qd (kB A1 A5);have I8:=qd C7;clear A5 C7 q d U)|(go_at_call 293;(first|(have _q:=u;refine(ES _ _ _ _ _ I8).mono ?_;rintro e w2⟨i,rfl,B8,B⟩)|(refine(HS uq _ (p9 s st) ns (j+1) I8 (by show st.op+1=op+1;omega)).mono ?_;rintro e w2⟨B8,h2⟩;rw[q9 HF]at h2;(first|(have _q:=en;obtain⟨i,rfl,B⟩:=h2)|(obtain⟨new,rfl,B,U3,M7,F9⟩:=h2;have V3:=qd F9;clear F9))));obtain⟨q,d,_,U,KW⟩:=B8.mine hL DL;have q1:Xc w2 (Z w.1) 1 (I J st.U):=(q 1).trans p1;have q3:=(q 3).trans p3;have L5:=B.lt;obtain⟨d7,dz⟩:=B.c7;(try rw[U3]at d7);have Q9:=qd (L8.trans B8);have t:=qd B;clear B8 B q d U)|(go_at_call 130;(first|(have _q:=u;refine(RV _ _ _ _ _ _ _ (t.setOp 12 12 rfl).1 uq ur).mono ?_;rintro e w3⟨i3,rfl,A,F3⟩;have M:=qd ((t.setOp 12 12 rfl).2.trans A))|(have _q:=en;refine(RV _ _ _ _ _ _ _ (t.setOp op _ uq).1 uq ur).mono ?_;rintro e w3⟨i3,rfl,A,F3⟩;have M:=qd ((t.setOp op _ uq).2.trans A))|(refine be (RU _ _ _ _ _ _ (t.setOp op _ uq).1 ur) ?_;rintro w3⟨A,F3⟩;have M:=qd ((t.setOp op _ uq).2.trans A)));have T8:=qd F3;clear A F3))
  go_ret
  first
   | (
    have _q:=u;refine⟨Q9.trans M,_,rfl, ?_⟩;rw[<-P,u]
    exact T8.more uq)
   | exact⟨Q9.trans M,i3,rfl,q9 T8⟩
   | (
    refine⟨Q9.trans M,_,js ur, ?_,P, ?_,Flat.un _ V3⟩
    .have:=q9 T8
     rw[bw]at this;rw[P];exact this
    .have:(p9 s st).U<=st'.U:=M7
     have e:(p9 s st).U=(qh s st).U:=rfl;show st.U<=st'.U
     omega)
theorem qy2(rb:Nat)(s:uj)(hs:s.size<=200)(op m:Nat)(T:200<=m)(w:Ao)(st:St)(ns:List RN)(j:Nat)(h:RT w rb s ns j st)(Q:st.op=op)(q:st.tk.Q≠2/\st.tk.Q≠3/\st.tk.Q≠4/\st.tk.Q≠8/\st.tk.Q≠9/\st.tk.Q≠22/\st.tk.Q≠23/\st.tk.Q≠26):
  uo 293 #[Ag (G (D rb 0 O))] w (REnds rb s w op m ns j st.U (.err 2 st.U)):=by
 obtain⟨c2,c3,c4,c5,c6⟩:=h.ct;have c8:=h.c8;have Y:=h.lt;have n0:¬w.1.size=rb:=uq;have n1:¬rb=w.1.size:=uq;have i8:=isK (st:=st) (c:=8) (X:=⟨#[84,82,85,69]⟩) rfl uu uu 6 rfl;have t:=isK (st:=st) (c:=9) (X:=⟨#[70,65,76,83,69]⟩) rfl uu uu 6 rfl;have A:=isK (st:=st) (c:=22) (X:=⟨#[43]⟩) rfl uu uu 5 rfl;have B:=isK (st:=st) (c:=23) (X:=⟨#[45]⟩) rfl uu uu 5 rfl;have C:=isK (st:=st) (c:=26) (X:=⟨#[40]⟩) rfl uu uu 5 rfl;rw[aw.2 q.2.2.2.1]at i8;rw[aw.2 q.2.2.2.2.1]at t;rw[aw.2 q.2.2.2.2.2.1]at A;rw[aw.2 q.2.2.2.2.2.2.1]at B;rw[aw.2 q.2.2.2.2.2.2.2]at C
 have P:(rK st.tk.Q==2)=uh/\(rK st.tk.Q==3)=uh/\(rK st.tk.Q==4)=uh:=by
  grind[rK]
 obtain⟨P,r3,r4⟩:=P;have H:=qd h;clear h q;generalize rK st.tk.Q=K at *;generalize BS (tkS st)=S at *;generalize tkZ st=Z at *;generalize tkN st=N at *;have U:∀o,Hid (uo 94 #[Ag (G (D rb 0 O)),I J 2,I J st.U] (w.alloc o) λe w'=>e=Ak (Aj #[])/\TKept rb (w.alloc o) w'/\RE w' rb s 2 st.U st.op 200):=λo=>qd (pS (H.alloc o) hs 2 st.U uu)
 rcases(show K=6\/K=5\/(K≠6/\K≠5) by omega) with rfl|rfl|⟨k6,k5⟩
 .rw[mu,mf]at i8 t
  rw[show(⟨#[84,82,85,69]⟩:uj).toList=[84,82,85,69] from by rw[io]]at i8;rw[show(⟨#[70,65,76,83,69]⟩:uj).toList=[70,65,76,83,69] from by rw[io]]at t;clear A B C P r3 r4;go_enter func293,ntmps293
  go_wp2_with(go_at_call 94;refine be (q9 (U _)) ?_;rintro w1⟨i,d⟩;have u:=qd (kB Y i);have M:=qd d;clear i d)
  go_ret;exact⟨q9 u,0,rfl,Q ▸ (q9 M).more T⟩
 .rw[mu,mf]at A B C
  rw[show(⟨#[43]⟩:uj).toList=[43] from by rw[io]]at A;rw[show(⟨#[45]⟩:uj).toList=[45] from by rw[io]]at B;rw[show(⟨#[40]⟩:uj).toList=[40] from by rw[io]]at C;have j22:¬S.toList=[43]:=by grind
  have j23:¬S.toList=[45]:=by grind
  have j26:¬S.toList=[40]:=by grind
  clear i8 t P r3 r4;go_enter func293,ntmps293
  go_wp2_with(go_at_call 94;refine be (q9 (U _)) ?_;rintro w1⟨i,d⟩;have u:=qd (kB Y i);have M:=qd d;clear i d)
  go_ret;exact⟨q9 u,0,rfl,Q ▸ (q9 M).more T⟩
 have k6':(K==6)=uh:=by grind
 have k5':(K==5)=uh:=by grind
 have j5:¬K=5:=k5;clear i8 t A B C k6 k5;go_enter func293,ntmps293
 go_wp2_with(go_at_call 94;refine be (q9 (U _)) ?_;rintro w1⟨i,d⟩;have u:=qd (kB Y i);have M:=qd d;clear i d)
 go_ret;exact⟨q9 u,0,rfl,Q ▸ (q9 M).more T⟩
def plT(w:Ao)(rb:Nat):Nat:=match w.cell? (D rb 3 O) with
 | some (I _ n)=>n.toNat
 | _=>0
def meT(s:ByteArray)(w:Ao)(rb:Nat):Nat:=match w.cell? (D rb 8 O) with
 | some (I _ n)=>if n=0 then s.size+2 - plT w rb else 0
 | _=>0
theorem que(h:RT w rb s ns j st):meT s w rb=s.size+2 - st.U:=by
 have d:=h.ct.2.1
 grind[RT.c8,meT,plT]
theorem vno(h:RE w rb s en pl op m):meT s w rb=0:=by
 obtain⟨i,d⟩:=h.c8
 grind[meT]
theorem qk5(h:RT w rb s ns j st):
  uo 129 #[Ag (G (D rb 0 O)),I J kind,Y X] w λe w'=>e=Ak (Ah (rK st.tk.Q==kind&&((BS (tkS st)).toList==X.toList)))/\w'=w:=by
 grind[pk,RT]
theorem vnl{b:Int}(h:a=b):I J a=I J b:=by rw[h]
def vu2(rb:Nat)(s:ByteArray)(w:Ao)(op m:Nat)(ns:List RN)(j lo:Nat)(R:Res)(f:St->Res)(ks:List Int)(v:Ap)(wr:Ao):Prop:=
 TKept rb w wr/\((∃(n:Nat) (l:Ast) (sl:St) (new:List RN),R=ju s f ks n l sl/\s.size<n+sl.U/\v=I J ((A ns+A new - 1:Nat):Int)/\RT wr rb s (ns++new) j sl/\sl.op=op/\lo<=sl.U/\Flat l (A ns) new) \/
  ∃(en pl:Int) (i:Nat),R=.err en pl/\v=I J i/\RE wr rb s en pl op m)
theorem vvp(d:(ks=[22,23]/\b1=43/\b2=45)\/(ks=[24,25]/\b1=42/\b2=47))(sl:St):∃t1 t2:Bool,(rK sl.tk.Q==5&&((BS (tkS sl)).toList==(⟨#[b1]⟩:uj).toList))=t1/\(rK sl.tk.Q==5&&((BS (tkS sl)).toList==(⟨#[b2]⟩:uj).toList))=t2/\ks.contains sl.tk.Q=(t1||t2)/\((t1||t2)=ui->22<=sl.tk.Q/\sl.tk.Q<=25):=by
 obtain⟨rfl,rfl,rfl⟩|⟨rfl,rfl,rfl⟩:=d;refine⟨_,_,isK (c:=22) rfl uu uu 5 rfl,isK (c:=23) rfl uu uu 5 rfl,by grind,λh=>?_⟩;simp at h;omega;refine⟨_,_,isK (c:=24) rfl uu uu 5 rfl,isK (c:=25) rfl uu uu 5 rfl,by grind,λh=>?_⟩;simp at h;omega
theorem qhs(hC:(F=236/\K=261/\b1=43/\b2=45/\ks=[22,23])\/(F=261/\K=293/\b1=42/\b2=47/\ks=[24,25]))(rb:Nat)(s:uj)(hs:s.size<=200)(op m:Nat)(hm:200<=m)(dR:m<=900)(f:St->Res)(t:RReads K rb s op m f):RReads F rb s op (m+1) (zj s f ks):=by
 intro w st ns j h ho;have HF:=qd t;have HC:=qd (t w st ns j h ho);have E:=qd (vvp (ks:=ks) (b1:=b1) (b2:=b2) (by obtain⟨_,_,d,h2,u⟩|⟨_,_,d,h2,u⟩:=hC;exact Am ⟨u,d,h2⟩;exact An ⟨u,d,h2⟩));obtain⟨R,hR⟩:=ie (zj s f ks st);rw[hR];have HR:=qd hR;clear t h hR;obtain⟨rfl,rfl,rfl,rfl,_⟩|⟨rfl,rfl,rfl,rfl,_⟩:=hC
 all_goals
  first|go_enter func236,ntmps236|go_enter func261,ntmps261
  go_wp2_with((first|go_at_call 261|go_at_call 293);refine HC.mono ?_;rintro e w1 d;have H1:Hid (∃v,e=Ak v/\vu2 rb s w op (m+1) ns j st.U R f ks v w1):=qd (by
    obtain⟨A5,d⟩:=d;rw[<-q9 HR]
    cases D4:f st with
    | ok l0 st0=>rw[D4]at d;obtain⟨new,rfl,C7,V6,U8,F9⟩:=d;exact⟨_,rfl,A5,Am ⟨s.size+1,l0,st0,new,qg1 D4,uq,rfl,C7,V6,U8,F9⟩⟩
    | err en pl=>rw[D4]at d;obtain⟨i,rfl,C7⟩:=d;exact⟨_,rfl,A5,An ⟨en,pl,i,qcp D4,rfl,C7.more uq⟩⟩);clear d;obtain⟨v1,rfl,d⟩:=q9 H1;have cK:=qd d;clear H1 d)
  go_loopw [3] (λv wr=>Hid (vu2 rb s w op (m+1) ns j st.U R f ks v wr)) (λv wr=>meT s wr rb)
  exact cK;obtain⟨Q,q⟩:=q9 hrel;obtain⟨n,l,sl,new,B,hn,rfl,D,FC,J5,F9⟩|⟨en,pl,i,B,rfl,nU⟩:=q
  .have O4:=D.y
   have UO:=O4.U;have iE:=D.lt;obtain⟨c2,c3,c4,c5,c6⟩:=D.ct;have c8:=D.c8;obtain⟨mm,rfl⟩:∃mm,n=mm+1:=⟨n - 1,uq⟩;have RQ:=qd (que D);have M:=qd D;have U:=qd Q;have V3:=qd F9;clear D Q F9 hrel cK;obtain⟨P,t2,fQ,fP,C,G⟩:=q9 E sl;rcases(show(P=uh/\t2=uh)\/P=ui\/(P=uh/\t2=ui) by cases P<;>cases t2<;>simp) with⟨rfl,rfl⟩|rfl|⟨rfl,rfl⟩
   .have O:Hid (R=.ok l sl):=qd (by rw[B,pw C])
    clear C B G
    go_wp2_with(go_at_call 129;refine be (qk5 M) λw' hw'=>?_;subst w';simp only[fQ,fP])
    go_ret;rw[q9 O];exact⟨q9 U,new,rfl,q9 M,FC,J5,q9 V3⟩
   all_goals
    replace G:=G rfl;replace C:=C.trans (show _=ui from rfl);have dG:=O4.W uq;have FR:=qd (M.fresh (Al #[I J (rK sl.tk.Q),I J sl.U,I J (tkZ sl),Y (BS (tkS sl)),I J (tkN sl)] 171));have H':=qd (M.alloc (Al #[I J (rK sl.tk.Q),I J sl.U,I J (tkZ sl),Y (BS (tkS sl)),I J (tkN sl)] 171));have hN:=qd (congrArg BS ((qne (An (An ⟨uq,G.2⟩))).trans (vft (st:=sl) uq).symm));have M3:sl.tk.Q≠0/\sl.tk.Q≠1:=⟨uq,uq⟩;have HKD:=qd G;have n0:¬Z wr.1=rb:=uq;have n1:¬rb=Z wr.1:=uq;rcases D4:f (qh s sl) with⟨r,N0⟩|⟨en,pl⟩
   all_goals
    first
     | have O:=qd (B.trans (pu C (pN D4)))
     | have O:=qd (B.trans (qam C (gg D4)))
    have O5:=qd D4;clear C B D4 G
    go_wp2_with(first|(go_at_call 129;refine be (qk5 M) λw' hw'=>?_;subst w';simp only[fQ,fP])|(go_at_call 92;refine be (jU H' hs M3.1 M3.2) ?_;rintro w2⟨B8,C8⟩;obtain⟨q,t,_,T,hL⟩:=B8.mine ur FR;have p1:Xc w2 (Z wr.1) 1 (I J sl.U):=(q 1).trans ur;have p3:Xc w2 (Z wr.1) 3 (Y (BS (tkS sl))):=(q 3).trans ur;have bX:=qd T;have Q9:=qd (kB iE B8);have J4:=qd C8;clear B8 C8 q t T)|((first|go_at_call 261|go_at_call 293);refine(HF _ (qh s sl) (ns++new) (j+1) J4 FC).mono ?_;rintro e w3⟨F2,u⟩;rw[q9 O5]at u;(first|(have _q:=en;obtain⟨i3,rfl,F3⟩:=u)|(obtain⟨vje,rfl,F3,CE,mO,hfl3⟩:=u;have JD:=qd hfl3;clear hfl3));obtain⟨q,t,_,T,KW⟩:=F2.mine hL bX;have q1:Xc w3 (Z wr.1) 1 (I J sl.U):=(q 1).trans p1;have q3:Xc w3 (Z wr.1) 3 (Y (BS (tkS sl))):=(q 3).trans p3;have X9:=qd F2;have T8:=qd F3;clear F2 F3 q t T)|(go_at_call 130;(first|(have _q:=en;refine(qft T8 uq (tkS sl) sl.U (A ns+A new - 1) i3 rfl ur).mono ?_;rintro e w4⟨i4,rfl,L0,H⟩;have oP:=qd (vno H))|(refine be (qjx T8 hs ⟨qgs sl.tk.Q,sl.U,0,[],[],[]⟩ (A ns+A new - 1) (A ns+A new+A vje - 1) hN rfl rfl rfl ur) ?_;rintro w4⟨L0,H⟩;have GG:=H.y.U;have oP:=qd (que H)));have dD:=qd (((U.trans Q9).trans X9).trans L0);have aH:=qd H;clear L0 H))
    go_roundw
    case rel=>
     first
      | exact qd ⟨q9 dD,An ⟨en,pl,i4,q9 O,rfl,q9 aH⟩⟩
      | (
       refine qd ⟨q9 dD,Am ⟨mm,_,N0,new++vje++[jR ⟨qgs sl.tk.Q,sl.U,0,[],[],[]⟩ [A ns+A new - 1,A ns+A new+A vje - 1] uh],q9 O,uq,vnl ut, ?_,CE,uq,Flat.bin _ V3 (by have:=q9 JD;rwa [cd]at this)⟩⟩;have:=q9 aH
       simpa only[bw]using this)
    rw[q9 RQ,q9 oP];omega
  obtain⟨c8,mB⟩:=nU.c8;have LO:=qd nU;have U:=qd Q;clear nU Q hrel cK
  go_wp2
  go_ret;rw[B];exact⟨q9 U,i,rfl,q9 LO⟩
theorem RReads.more(h:RReads K rb s op m f)(q:m<=m'):RReads K rb s op m' f:=λw st ns j d i=>(h w st ns j d i).mono λ_ _ t=>t.more q ux
structure VN(w:Ao)(rb L:Nat)(ty:TypeId)(cs:Array Ap):Prop where
 blk:w.1[L]?=G (Al cs ty (0,0))
 past:rb<L
 no:¬qat w rb L
section
variable {w w':Ao} {rb L:Nat} {ty:TypeId} {cs:Array Ap}
theorem VN.lt(h:VN w rb L ty cs):L<Z w.1:=by grind[VN]
theorem VN.cell(h:VN w rb L ty cs)(i:Nat):w.cell? (D L i O)=cs[i]?:=by
 grind[World.cell?,VN]
theorem VN.frz(h:VN w rb L ty cs)(i:Nat):w.frozen? (D L i O)=uh:=by
 have:=h.blk;simp[World.frozen?,this]
theorem VN.P(h:VN w rb L ty cs)(d:TKept rb w w'):VN w' rb L ty cs:=
 ⟨(d.block L h.lt h.no).trans h.blk,h.past,λi=>h.no (d.own L h.lt i)⟩
theorem qs5(w:Ao)(d:L≠rb)(i:Nat)(u:Ap)(k:Nat):qat (B w (D L i O) u) rb k↔qat w rb k:=by
 grind[World.cell?,Below.heap_setCell,qat]
theorem VN.set(h:VN w rb L ty cs)(i:Nat)(u:Ap):VN (B w (D L i O) u) rb L ty (cs.setIfInBounds i u):=by
 grind[qs5,B,VN]
theorem VN.setB(h:VN w rb L ty cs){M:Nat}(q:L≠M)(d:M≠rb)(i:Nat)(u:Ap):VN (B w (D M i O) u) rb L ty cs:=by grind[Below.heap_setCell,qs5,VN]
theorem VN.rt(h:VN w rb L ty cs)(P:(3:TypeId)≠ty)(M:(9:TypeId)≠ty)(C:RT w rb s ns j st)(i:Nat)(u:Ap):RT (B w (D L i O) u) rb s ns j st:=by
 obtain⟨nv,d,I,J,G⟩:=C;have A:L≠rb:=md h.past
 have t:(B w (D L i O) u).1[rb]?=w.1[rb]?:=bi w ⟨L,i,O⟩ u rb (λe=>A e.symm);have q:∀j,(B w (D L i O) u).cell? (D rb j O)=w.cell? (D rb j O):=λj=>bg (w:=w) (a:=D rb j O) t
 have H:∀j,(B w (D L i O) u).frozen? (D rb j O)=w.frozen? (D rb j O):=λj=>cn (w:=w) (a:=D rb j O) t
 refine⟨nv,⟨by simpa using d.lt,(q _).trans d.c0,(q _).trans d.c1,(q _).trans d.c2,(q _).trans d.c3,(q _).trans d.c4,(q _).trans d.c5,(q _).trans d.c6,(q _).trans d.c7,(q _).trans d.c8,(q _).trans d.c9,λj=>(H j).trans (d.fz j)⟩,I.far h.blk P M A (λe=>h.no (An ⟨nv,d.c0,e⟩)) i u,J,G⟩
theorem VN.re(h:VN w rb L ty cs)(P:(3:TypeId)≠ty)(M:(9:TypeId)≠ty)(C:RE w rb s en pl op m)(i:Nat)(u:Ap):RE (B w (D L i O) u) rb s en pl op m:=by
 obtain⟨nv,a,ns,d,I,J,G⟩:=C;have A:L≠rb:=md h.past
 have t:(B w (D L i O) u).1[rb]?=w.1[rb]?:=bi w ⟨L,i,O⟩ u rb (λe=>A e.symm);have q:∀j,(B w (D L i O) u).cell? (D rb j O)=w.cell? (D rb j O):=λj=>bg (w:=w) (a:=D rb j O) t
 have H:∀j,(B w (D L i O) u).frozen? (D rb j O)=w.frozen? (D rb j O):=λj=>cn (w:=w) (a:=D rb j O) t
 refine⟨nv,a,ns,⟨by simpa using d.lt,(q _).trans d.c0,(q _).trans d.c1,(q _).trans d.c2,(q _).trans d.c3,(q _).trans d.c4,(q _).trans d.c5,(q _).trans d.c6,(q _).trans d.c7,(q _).trans d.c8,(q _).trans d.c9,λj=>(H j).trans (d.fz j)⟩,I,J.far h.blk P M A (λe=>h.no (An ⟨nv,d.c0,e⟩)) i u,G⟩
theorem VN.row(h:VN w rb L ty cs)(q:ty'≠ty)(d:RowOf w rb ty' v vs)(i:Nat)(u:Ap):RowOf (B w (D L i O) u) rb ty' v vs:=d.far h.blk q (md h.past) i u
theorem VN.new{s:uj}{ns:List RN}{j:Nat}{st:St}(h:RT w rb s ns j st)(ty:TypeId)(cs:Array Ap){L:Nat}(d:L=Z w.1):VN (w.alloc (Al cs ty)) rb L ty cs:=by
 subst d;exact⟨heap_alloc_new w _,h.lt,h.fresh _⟩
theorem VN.alloc(h:VN w rb L ty cs)(d:rb<Z w.1)(o:Obj):VN (w.alloc o) rb L ty cs:=h.P (TKept.x (uy.alloc ux o) d)
end
section
variable {w:Ao} {rb:Nat} {s:uj} {ns:List RN} {j:Nat} {st:St} {en pl:Int} {op m:Nat}
theorem qhj(h:RT w rb s ns (j+1) st)(d:s.size<=200)(p:Pay)(hp:p.M=0)(ins:List Nat)(neg:Bool)(u:BS (qJ p.op)=N)(t:BS p.str=S)(B:BS p.esc=E)(q:RowOf w rb 3 iv (qau ins))(i:RowOf w rb 9 lv (qx p.i)):
  uo 130 #[Ag (G (D rb 0 O)),Ai #[Y N,I J p.U,iv,Y S,Y E,lv,I J 0,Ah neg,I J 0]] w
   λe w'=>e=Ak (I J (A ns))/\TKept rb w w'/\RT w' rb s (ns++[jR p ins neg]) j st:=by
 have:=qk0 h d (jR p ins neg) q i;unfold rnV at this;have P:(jR p ins neg).op=qJ p.op:=rfl;have M:(jR p ins neg).str=p.str:=rfl;have H:(jR p ins neg).esc=p.esc:=rfl;have C:(jR p ins neg).M=p.M:=rfl;rwa[P,M,H,C,hp,u,t,B]at this
theorem qjy(h:RE w rb s en pl op m)(d:m<=1000)(ins:List Nat)(ts:List uk)(neg:Bool)(t:RowOf w rb 3 iv (qau ins))(q:RowOf w rb 9 lv (qx ts)):
  uo 130 #[Ag (G (D rb 0 O)),Ai #[Y N,I J a,iv,Y S,Y E,lv,I J 0,Ah neg,I J 0]] w
   λe w'=>∃i:Nat,e=Ak (I J i)/\TKept rb w w'/\RE w' rb s en pl op (m+1):=
 qjz h d ⟨T N.data,a,ins,T S.data,T E.data,ts,0,neg,0⟩ t q
end
theorem VN.nine{D C B A u t q i d:Ap}(h:VN w rb n ty #[D,C,B,A,u,t,q,i,d]):Xc w n 0 D/\Xc w n 1 C/\Xc w n 2 B/\Xc w n 3 A/\Xc w n 4 u/\Xc w n 5 t/\Xc w n 6 q/\Xc w n 7 i/\Xc w n 8 d/\Xf w n:=⟨h.cell 0,h.cell 1,h.cell 2,h.cell 3,h.cell 4,h.cell 5,h.cell 6,h.cell 7,h.cell 8,h.frz⟩
abbrev nuN(w:Ao)(pl:Nat)(b:Bool):Array Ap:=#[Y ⟨#[78,85,76,76]⟩,I J pl,C (G ⟨w.1.size,0,O⟩) 1 1,Y ⟨#[]⟩,Y ⟨#[]⟩,C O 0 0,I J 0,Ah b,I J 0]
abbrev nuW(w:Ao)(i0 pl:Nat):Ao:=(w.alloc (Al #[I J i0] 3)).alloc (Al (nuN w pl uh) 178)
theorem ve8(rb:Nat)(s:uj)(d:s.size<=200)(op m:Nat)(hm:201<=m)(w:Ao)(st:St)(ns new:List RN)(j:Nat)(l:Ast)(h:RT w rb s (ns++new) j st)(ho:st.op=op)(hk:st.tk.Q=14)(F9:Flat l (A ns) new)(i0:Nat)(U4:i0=A ns+A new - 1):
  uo 238 #[Ag (G (D rb 0 O)),I J i0] w (REnds rb s w op m ns j st.U (jy s l st)):=by
 obtain⟨_,c3,_⟩:=h.ct;have U:=h.lt;have n0:¬Z w.1=rb:=uq;have n1:¬rb=Z w.1:=uq;have n2:¬Z w.1+1=rb:=uq;have n3:¬rb=Z w.1+1:=uq;have oR:Hid (TKept rb w (nuW w i0 st.U)):=qd (((TKept.refl rb w).alloc U _).alloc U _);have H0:Hid (RT (nuW w i0 st.U) rb s (ns++new) j st):=qd ((h.alloc _).alloc _);have DJ:Hid (VN (nuW w i0 st.U) rb (Z w.1+1) 178 (nuN w st.U uh)):=qd (VN.new (h.alloc _) _ _ ur);have oN:Hid (RowOf (nuW w i0 st.U) rb 3 (C (G ⟨Z w.1,0,O⟩) 1 1) (qau [i0])):=qd (RowOf.P (RowOf.made U h.fresh 3 #[I J i0] 1 rfl) (TKept.x (uy.alloc ux _) (h.alloc _).lt));have J5:=h.y.W uq;have V3:=qd F9;have eA:=qd U4;have YA:(qh s st).tk.Q≠0->(qh s st).U<(qh s (qh s st)).U:=(qH s st h.y.H).W;have XZ:(qh s (qh s st)).tk.Q≠0->(qh s (qh s st)).U<(qh s (qh s (qh s st))).U:=(qH s _ (qH s st h.y.H).H).W;clear h F9 U4;unfold jy;rcases(show((qh s st).tk.Q=7/\(qh s (qh s st)).tk.Q=15)\/((qh s st).tk.Q=7/\¬(qh s (qh s st)).tk.Q=15)\/(¬(qh s st).tk.Q=7/\(qh s st).tk.Q=15)\/(¬(qh s st).tk.Q=7/\¬(qh s st).tk.Q=15) by omega) with⟨B,i⟩|⟨B,WU⟩|⟨Y,i⟩|⟨Y,WU⟩
 all_goals
  first|(rw[bs B];have JY:=ew.2 B)|(rw[ak Y];have JY:=aw.2 Y)
  first|rw[bs i]|rw[ak WU]
  go_enter func238,ntmps238
  go_wp2_with(first|(go_at_call 129;refine be (qux M 7 (X:=⟨#[78,79,84]⟩) rfl uu uu rfl) λw' hw'=>?_;subst w';rw[JY])|(go_at_call 92;have _q:=M;refine be (jU (H.rt uu uu M 7 (Ah ui)) d uq uq) ?_;rintro w2⟨Q,C8⟩;have tG:=qd ((H.set 7 (Ah ui)).P Q);have q:=qd ((H.row uu QV 7 (Ah ui)).P Q);have Q9:=qd ((L8.far U (p:=⟨Z w.1+1,7,O⟩) (by show Z w.1<=Z w.1+1;omega) (Ah ui)).trans Q);have J4:=qd C8;clear Q C8)|(go_at_call 92;refine be (jU H0 d uq uq) ?_;rintro w1⟨T,C7⟩;have u:=(q9 DJ).P T;have p7:Xc w1 (Z w.1+1) 7 (Ah uh):=u.cell 7;have pz:=u.frz;have QV:=qd (oN.P T);have L8:=qd (oR.trans T);have B9:=C7.lt;have H:=qd u;have M:=qd C7;clear T C7 u)|(go_at_call 262;(first|(have HR:=J4;have HV:Hid (VN _ _ _ _ (nuN w st.U ui)):=tG;have t:=q;have HK:=Q9)|(have HR:=M;have HV:=H;have t:=QV;have HK:=L8));(first|(have _q:=i;refine(qk8 HR d 15 rfl uu uu rfl i).mono ?_)|refine(qak HR d 15 rfl uu uu rfl WU).mono ?_);rintro e w3⟨rfl,P,F3⟩;obtain⟨q0,q1,q2,q3,q4,q5,q6,q7,q8,_⟩:=(HV.P P).nine;have QU:=qd (t.P P);have X9:=qd (HK.trans P);have T8:=qd F3;clear P F3)|(go_at_call 130;(first|(have _q:=i;refine be (qhj T8 d ⟨23,st.U,0,[],[],[]⟩ rfl [i0] _ rfl rfl rfl QU (RowOf.no _ _ _)) ?_;rintro w4⟨L0,R7⟩)|(refine(qjy T8 uq [i0] [] _ QU (RowOf.no _ _ _)).mono ?_;rintro e w4⟨i4,rfl,L0,R7⟩));have dD:=qd (X9.trans L0);have aH:=qd R7;clear L0 R7))
  go_ret
  first
   | exact⟨q9 dD,i4,rfl,ho ▸ (q9 aH).more uq⟩
   | (
    have HH:=q9 aH;rw[bw,q9 eA]at HH;have:=YA uq
    first
     | (
      have _q:=B;have:=XZ uq
      exact⟨q9 dD,_,js ur,HH.less uq,ho,uq,Flat.neg1 _ _ (An (An rfl)) V3⟩)
     | exact⟨q9 dD,_,js ur,HH.less uq,ho,uq,Flat.un _ V3⟩)
structure But(L:Nat)(w w':Ao):Prop where
 os:w'.os=w.os
 tape:w'.tape=w.tape
 output:w'.output=w.output
 size:w.1.size<=w'.1.size
 block:∀k,k<w.1.size->k≠L->w'.1[k]?=w.1[k]?
section
variable {L rb:Nat} {w w' w'':Ao} {ty:TypeId} {cs:Array Ap}
theorem But.refl(L:Nat)(w:Ao):But L w w:=by grind[But]
theorem But.trans(h:But L w w')(k:But L w' w''):But L w w'':=by grind[But]
theorem But.h(h:But L w w')(d:Xb w' w''):But L w w'':=h.trans ⟨d.os,d.tape,d.output,d.size,λk i _=>d.block k i⟩
theorem But.alloc(h:But L w w')(o:Obj):But L w (w'.alloc o):=h.h (uy.alloc ux o)
theorem But.set(h:But L w w')(i:Nat)(u:Ap):But L w (B w' (D L i O) u):=
 h.trans ⟨rfl,rfl,rfl,ur,λk _ d=>bi w' ⟨L,i,O⟩ u k d⟩
theorem But.grown(h:But L w w'){row:Option Nat}(d:w'.grownBy w'' row)(q:∀g,row=G g->Z w.1<=g):But L w w'':=
 ⟨d.os.trans h.os,d.tape.trans h.tape,d.output.trans h.output,bu h.size d.size,λk i t=>(d.block k (au i h.size) (λe=>md (q k e.symm))).trans (h.block k i t)⟩
theorem But.cell0(h:But L w w')(q:rb<Z w.1)(d:rb≠L)(i:Nat):w'.cell? (D rb i O)=w.cell? (D rb i O):=by grind[World.cell?_of_block,But]
theorem But.own(h:But L w w')(i:rb<Z w.1)(d:rb≠L)(k:Nat):qat w' rb k↔qat w rb k:=by grind[qat,But.cell0]
theorem But.row(h:But L w w')(q:rb<Z w.1)(hv:VN w rb L ty cs)(d:ty'≠ty)(i:RowOf w rb ty' v vs):RowOf w' rb ty' v vs:=by
 grind[But.own,But,VN,RowOf]
theorem But.tr{n op:Int}(h:But L w w')(i:rb≠L)(d:TrC w rb nv s k a z S n op er at'):TrC w' rb nv s k a z S n op er at':=by
 grind[But.cell0,World.frozen?_of_block,But,TrC]
theorem But.nodes(h:But L w w')(B:rb<Z w.1)(c0:Xc w rb 0 nv)(hv:VN w rb L ty cs)(I:(3:TypeId)≠ty)(H:(9:TypeId)≠ty)(G:NodesAt w rb nv ns):NodesAt w' rb nv ns:=by
 obtain⟨C,D,d,q⟩:=G;refine⟨C,D,vo d λg t=>h.block g (d.lt g t).2 (λe=>hv.no (An ⟨nv,c0,e ▸ t⟩)),λi n r A u=>⟨h.row B hv I (q i n r A u).1,h.row B hv H (q i n r A u).2⟩⟩
theorem But.rt(h:But L w w')(hv:VN w rb L ty cs)(B:(3:TypeId)≠ty)(A:(9:TypeId)≠ty)(i:RT w rb s ns j st):RT w' rb s ns j st:=by
 obtain⟨nv,d,t,u,q⟩:=i;exact⟨nv,h.tr (md hv.past) d,h.nodes d.lt d.c0 hv B A t,u,q⟩
theorem But.re(h:But L w w')(hv:VN w rb L ty cs)(B:(3:TypeId)≠ty)(A:(9:TypeId)≠ty)(i:RE w rb s en pl op m):RE w' rb s en pl op m:=by
 obtain⟨nv,a,ns,d,t,u,q⟩:=i;exact⟨nv,a,ns,h.tr (md hv.past) d,t,h.nodes d.lt d.c0 hv B A u,q⟩
theorem TKept.but{a:Ao}(d:TKept rb a w)(h:But L w w')(u:rb<Z a.1)(hp:Z a.1<=L):TKept rb a w':=by
 refine⟨h.os.trans d.os,h.tape.trans d.tape,h.output.trans d.output,bu d.size h.size,λk i t=>(h.block k (au i d.size) uq).trans (d.block k i t),λk i q=>d.own k i ((h.own (au u d.size) uq k).1 q)⟩
theorem But.no(h:But L w w')(hv:VN w rb L ty cs)(d:rb<Z w.1):¬qat w' rb L:=by grind[But.own,VN]
end
theorem qua:(prog.info? 3).map (λi=>(i.zero,i.size,i.bytes))=G (G (I J 0),1,8):=uw
theorem vh1(H:Xc W g 0 (I J i0))(a:Nat):
  ∃t cap w',(appR #[50,50] 50 #[C (G (D g 0 O)) 1 1,C (G ⟨Z W.1,0,O⟩) 1 1]).run prog (W.alloc (Al #[I J a] 3))=.ok (C (G (D t 0 O)) 2 cap) w' /\
   Hid (ue w' (Z W.1) 3 1 (C (G (D t 0 O)) 2 cap) 2 [I J i0,I J a])/\Hid (Xb W w'):=by
 obtain⟨i,U,F5,B9,D8⟩:=info_parts qua;have q:Xb W (W.alloc (Al #[I J (a:Int)] 3)):=uy.alloc ux _;have aL:g<Z W.1:=nt W ⟨g,0,O⟩ H;obtain⟨v',w',M,Q,A⟩:=run_append_arg_grows (P:=prog) (w:=W.alloc (Al #[I J (a:Int)] 3)) 50 50 3 i _ 1 8 underlying50 U F5 B9 D8 rfl uq ⟨g,0,O⟩ 1 1 [I J i0] rfl
  (by
   intro j u d;obtain _|j:=j
   .simp at d;subst d;exact((qi q).1 _ _ aL).trans H
   .simp at d)
  ⟨Z W.1,0,O⟩ 1 1 [I J a] rfl
  (by
   intro j u d;obtain _|j:=j
   .simp at d;subst d;simp[Addr.add]
   .simp at d) uq (by unfold maxLen;omega) uq
 obtain⟨T,hn|⟨t,cap,cur,rfl,J1,I3,h1,h2,h3,Y⟩⟩:=Q;omega;refine⟨t,cap,w',M,qd ⟨T,An ⟨t,cap,cur,rfl, ?_,I3,h1,h2,h3,Y⟩⟩,qd ⟨A.os.trans q.os,A.tape.trans q.tape,A.output.trans q.output,bu q.size A.size,λk B=>(A.block k (au B q.size) ur).trans (q.block k B)⟩⟩;simp at J1;omega
theorem vh2{a:Nat}(H:ue W uc 3 1 (C (G (D g 0 O)) 2 cap) 2 [I J i0,I J a])(hB:uc<=Z W.1)(b:Nat):
  ∃t cap' w',(appR #[50,50] 50 #[C (G (D g 0 O)) 2 cap,C (G ⟨Z W.1,0,O⟩) 1 1]).run prog (W.alloc (Al #[I J b] 3))=.ok (C (G (D t 0 O)) 3 cap') w' /\
   Hid (ue w' uc 3 1 (C (G (D t 0 O)) 3 cap') 3 [I J i0,I J a,I J b])/\Hid (W.grownBy w' (G g))/\uc<=g:=by
 obtain⟨i,Y,F5,B9,D8⟩:=info_parts qua;have d:Xb W (W.alloc (Al #[I J (b:Int)] 3)):=uy.alloc ux _;have B:=H.lt g rfl;obtain⟨t,cap',w',T,Q,q,_,_⟩:=run_append_lies (P:=prog) (W.alloc (Al #[I J (b:Int)] 3)) 50 50 uc 3 i _ 1 8 underlying50 Y F5 B9 D8 rfl uq _ 2 _ (World.ownsRow.alloc H _) ⟨Z W.1,0,O⟩ 1 1 [I J b] rfl
  (by
   intro j u A;obtain _|j:=j
   .simp at A;subst A;simp[Addr.add]
   .simp at A) (by simp[Value.oneCell']) uq (by unfold maxLen;omega) uq ut _ rfl
 exact⟨t,cap',w',T,qd Q,qd ⟨q.os.trans d.os,q.tape.trans d.tape,q.output.trans d.output,bu d.size q.size,λk M U=>(q.block k (au M d.size) U).trans (d.block k M)⟩,B.1⟩
theorem vd2(d:ue w uc ty 1 (C (G (D g 0 O)) n cap) n vs)(t:rb<uc)(i:¬qat w rb g):RowOf w rb ty (C (G (D g 0 O)) n cap) vs:=by
 obtain⟨q,h|⟨I,cap',cur,hv,J,M,H,B,A,u⟩⟩:=d<;>grind[RowOf]
section
attribute [local go_sem ↓] vr
def vxs(neg:Bool)(pl:Int)(t:Ast):Ast:=if neg=ui then .un ⟨5,pl,0,[],[],[]⟩ t else t
def vjd(neg:Bool)(pl:Int)(r:Res):Res:=match r with
 | .ok t st=>.ok (vxs neg pl t) st
 | .err en p=>.err en p
theorem RT.own_lt(h:RT w rb s ns j st)(k:Nat)(t:qat w rb k):k<Z w.1:=by
 obtain⟨nv,i,⟨B,_,u,_⟩,_⟩:=h;obtain rfl|⟨q,d,A⟩:=t;exact i.lt;rw[i.c0]at d;injection d with d;subst d;exact(u.lt k A).2
theorem RE.own_lt(h:RE w rb s en pl op m)(k:Nat)(t:qat w rb k):k<Z w.1:=by
 obtain⟨nv,a,ns,i,_,⟨B,_,u,_⟩,_⟩:=h;obtain rfl|⟨q,d,A⟩:=t;exact i.lt;rw[i.c0]at d;injection d with d;subst d;exact(u.lt k A).2
theorem vub(d:st.tk.Q=10):(∃en pl,f (qh s st)=.err en pl/\qY s f l st=.err en pl)\/∃lo A9,f (qh s st)=.ok lo A9/\((¬A9.tk.Q=5/\qY s f l st=.err 2 A9.U)\/(A9.tk.Q=5/\((∃en pl,f (qh s A9)=.err en pl/\qY s f l st=.err en pl)\/∃hi N0,f (qh s A9)=.ok hi N0/\qY s f l st=.ok (.tri ⟨20,st.U,0,[],[],[]⟩ l lo hi) N0))):=by
 unfold qY
 cases h:f (qh s st) with
 | err en pl=>grind
 | ok lo A9=>
  refine An ⟨lo,A9,rfl, ?_⟩
  by_cases k5:A9.tk.Q=5
  grind
  grind
abbrev beN(pl:Nat)(v:Ap)(neg:Bool):Array Ap:=#[Y ⟨#[66,69,84,87,69,69,78]⟩,I J pl,v,Y ⟨#[]⟩,Y ⟨#[]⟩,C O 0 0,I J 0,Ah neg,I J 0]
structure BwN(w W:Ao)(rb L g i0:Nat)(cs:Array Ap):Prop where
 v:VN W rb L 178 cs
 g:VN W rb g 3 #[I J i0]
 k:TKept rb w W
theorem BwN.P{W':Ao}(h:BwN w W rb L g i0 cs)(d:TKept rb W W'):BwN w W' rb L g i0 cs:=⟨h.v.P d,h.g.P d,h.k.trans d⟩
theorem vwg(M:rb<Z W.1)(hv:VN W rb L ty cs)(hg:Xc W g 0 (I J i0))(UF:∀k,qat W rb k->k<Z W.1)(a b:Nat):
  ∃i q u d A t,(appR #[50,50] 50 #[C (G (D g 0 O)) 1 1,C (G ⟨Z W.1,0,O⟩) 1 1]).run prog (W.alloc (Al #[I J a] 3))=.ok (C (G (D i 0 O)) 2 q) u /\
   (appR #[50,50] 50 #[C (G (D i 0 O)) 2 q,C (G ⟨Z u.1,0,O⟩) 1 1]).run prog ((B u (D L 2 O) (C (G (D i 0 O)) 2 q)).alloc (Al #[I J b] 3))=.ok (C (G (D d 0 O)) 3 A) t /\
   VN u rb L ty cs/\VN t rb L ty (cs.setIfInBounds 2 (C (G (D i 0 O)) 2 q)) /\
   Hid (But L W (B t (D L 2 O) (C (G (D d 0 O)) 3 A)))/\Hid (RowOf (B t (D L 2 O) (C (G (D d 0 O)) 3 A)) rb 3 (C (G (D d 0 O)) 3 A) (qau [i0,a,b])):=by
 have hL:=hv.lt;have hp:=hv.past;obtain⟨i,q,u,T7,DL,D9⟩:=vh1 hg a;have Q:But L W u:=(But.refl L W).h D9;have hz6:=Q.size;have Y:VN u rb L ty cs:=⟨(D9.block L hL).trans hv.blk,hp,Q.no hv M⟩;have P:ue (B u (D L 2 O) (C (G (D i 0 O)) 2 q)) (Z W.1) 3 1 (C (G (D i 0 O)) 2 q) 2 [I J i0,I J a]:=ownsRow_setCell_below DL (by show L<_;omega) _;have XM:=Y.set 2 (C (G (D i 0 O)) 2 q);obtain⟨d,A,t,U,bX,AW,hBg⟩:=vh2 P ut b;rw[size_setCell]at U;have T:But L W t:=(Q.set 2 (C (G (D i 0 O)) 2 q)).grown AW (λg' e=>by grind);have J6:i≠L:=uq;have rP:VN t rb L ty (cs.setIfInBounds 2 (C (G (D i 0 O)) 2 q)):=⟨(AW.block L ut (λe=>J6 (Option.some.inj e).symm)).trans XM.blk,hp,T.no hv M⟩;have H:=T.set 2 (C (G (D d 0 O)) 3 A);have KU:ue (B t (D L 2 O) (C (G (D d 0 O)) 3 A)) (Z W.1) 3 1 (C (G (D d 0 O)) 3 A) 3 [I J i0,I J a,I J b]:=ownsRow_setCell_below bX (by show L<_;omega) _;refine⟨i,q,u,d,A,t,T7,U,Y,rP,qd H,qd (vd2 KU M λho=>?_)⟩;have:=UF d ((H.own M uq d).1 ho);have:=(KU.lt d rfl).1;omega
theorem qd4(rb:Nat)(s:uj)(t:s.size<=200)(op m:Nat)(hm:200<=m)(dR:m<=900)(f:St->Res)(hf:RReads 236 rb s op m f)(eS:xY 236 rb s)(w:Ao)(st:St)(ns new:List RN)(j:Nat)(l:Ast)(h:RT w rb s (ns++new) j st)(ho:st.op=op)(hk:st.tk.Q=10)(F9:Flat l (A ns) new)(i0:Nat)(U4:i0=A ns+A new - 1)(g:Nat)(hg:VN w rb g 3 #[I J i0])(neg:Bool)(T:Int):
  uo 239 #[Ag (G (D rb 0 O)),Ai #[Y ⟨#[]⟩,I J st.U,C (G (D g 0 O)) 1 1,Y ⟨#[]⟩,Y ⟨#[]⟩,C O 0 0,I J 0,Ah neg,I J 0]] w (REnds rb s w op (m+1) ns j st.U (vjd neg T (qY s f l st))):=by
 have A1:=h.lt;have n0:¬Z w.1=rb:=uq;have n1:¬rb=Z w.1:=uq;have aL:=hg.lt;have lN:=qd (BwN.mk (VN.new h 178 (beN st.U (C (G (D g 0 O)) 1 1) neg) rfl) (hg.alloc A1 _) ((TKept.refl rb w).alloc A1 _));have J5:=h.y.W uq;have H0:=qd (h.alloc (Al (beN st.U (C (G (D g 0 O)) 1 1) neg) 178));have HF:=qd hf;have ES:=qd eS;have V3:=qd F9;have eA:=qd U4;clear h hg hf eS F9 U4;obtain⟨en,pl,G4,i⟩|⟨lo,A9,G4,⟨n5,i⟩|⟨k5,⟨en2,pl2,P9,i⟩|⟨hi,N0,P9,i⟩⟩⟩:=vub (s:=s) (f:=f) (l:=l) hk
 all_goals
  rw[i];have HF1:=qd G4;clear i G4
  try(have JG:=qd P9;clear P9)
  go_enter func239,ntmps239
  go_wp2_with(first|(go_at_call 92;refine be (jU H0 t uq uq) ?_;rintro w1⟨A5,C7⟩;have D9:=qd (lN.P A5);have I8:=qd C7;clear A5 C7)|(go_at_call 236;have _q:=T8;(first|(have _q:=k5;refine(HF w3 (qh s A9) (ns++new++new1) (j+1+1) T8 U3).mono ?_;rintro e w4⟨L0,h4⟩;rw[q9 JG]at h4;(first|(have _q:=en2;obtain⟨b,rfl,B⟩:=h4)|(obtain⟨lO,he,B,CD,eF,sO⟩:=h4;obtain⟨b,hb⟩:∃k:Nat,A (ns++new++new1)+A lO - 1=k:=⟨_,rfl⟩;rw[hb]at he;subst he;have Hb:=qd hb;clear hb;have JE:=qd sO;clear sO)))|(refine(ES w3 _ _ _ _ T8).mono ?_;rintro e w4⟨b,rfl,L0,B⟩));have d:=qd (F6.P L0);have u:=qd B;clear L0 B;obtain⟨g1,Q7,w6,g2,aX,w7,T7,aD,M,x7,lM,dP⟩:=vwg u.lt d.v (d.g.cell 0) u.own_lt a b;have p2:Xc w4 (Z w.1) 2 (C (G (D g 0 O)) 1 1):=(q9 d).v.cell 2;have q2:Xc w6 (Z w.1) 2 (C (G (D g 0 O)) 1 1):=M.cell 2;have z6:=M.frz;obtain⟨r0,r1,r2,r3,r4,r5,r6,r7,r8,z7⟩:=(show VN w7 rb (Z w.1) 178 (beN st.U (C (G (D g1 0 O)) 2 Q7) neg) from x7).nine;clear M x7)|(go_at_call 236;refine(HF w1 (qh s st) (ns++new) (j+1) I8 ho).mono ?_;rintro e w2⟨B8,h2⟩;rw[q9 HF1]at h2;(first|(have _q:=en;obtain⟨a,rfl,H⟩:=h2)|(obtain⟨new1,he,H,U3,M7,hfl1⟩:=h2;obtain⟨a,ha⟩:∃k:Nat,A (ns++new)+A new1 - 1=k:=⟨_,rfl⟩;rw[ha]at he;subst he;have Ha:=qd ha;clear ha;have HFA:=qd H.y;have q:=qd hfl1;clear hfl1));have G3:=qd (D9.P B8);have J4:=qd H;clear B8 H)|(go_at_call 262;(first|(have _q:=en;refine(qk7 J4 uu).mono ?_)|(have _q:=n5;refine(qak J4 t 5 rfl uu uu rfl n5).mono ?_)|refine(qk8 J4 t 5 rfl uu uu rfl k5).mono ?_);rintro e w3⟨rfl,F2,F3⟩;have F6:=qd (G3.P F2);have T8:=qd F3;clear F2 F3)|(go_at_call 130;(first|(have _q:=N0;refine be (qhj (lM.rt d.v uu uu u) t ⟨20,st.U,0,[],[],[]⟩ rfl [i0,a,b] neg rfl rfl rfl dP (RowOf.no _ _ _)) ?_;rintro w9⟨iG,U⟩)|(refine(qjy (lM.re d.v uu uu u) uq [i0,a,b] [] neg dP (RowOf.no _ _ _)).mono ?_;rintro e w9⟨i9,rfl,iG,U⟩));have P:=qd ((d.k.but lM A1 ux).trans iG);have Q:=qd U;clear iG U))
  go_ret
  first
   | (
    have _q:=n5
    exact⟨q9 P,i9,rfl,U3 ▸ (q9 Q).more uq⟩)
   | exact⟨q9 P,i9,rfl,Q.more uq⟩
   | (
    refine⟨q9 P,new++new1++lO++[jR ⟨20,st.U,0,[],[],[]⟩ [A ns+A new - 1,A ns+A new+A new1 - 1,A ns+A new+A new1+A lO - 1] neg],js ut, ?_,CD, ?_, ?_⟩
    .have:=q9 Q
     rw[q9 eA,<-q9 Ha,<-q9 Hb]at this;simp only[cd]at this;have:=this.less (j':=j) uq;simpa only[bw]using this
    .have e1:=zN s A9
     have e2:=(q9 HFA).long uq;omega
    .have f1:=q9 q
     have f2:=q9 JE;rw[cd]at f1;rw[cd,cd]at f2
     cases neg with
     | false=>exact Flat.tri _ V3 f1 f2
     | true=>exact Flat.neg3 _ _ rfl V3 f1 f2)
end
theorem TrC.other{n op:Int}(h:TrC w rb nv s k a z S n op er at')(d:¬b=rb)(i:Nat)(u:Ap):TrC (B w (D b i O) u) rb nv s k a z S n op er at':=
 ((But.refl b w).set i u).tr (λe=>d e.symm) h
section
variable {w:Ao} {rb:Nat} {nv:Ap} {s:uj} {k a z:Int} {p:Nat} {S:uj} {n op er at':Int}
theorem qnl(h:TrC w rb nv s 4 a p S n op 0 at')(hs:s.size<=200)(hp:p<=s.size){B P u:Int}{Q:uj}{A:Int}(H:qz8 s p B P u Q A):
  uo 263 #[Ag (G (D rb 0 O))] w λe w'=>e=Ak (Ai #[I J 4,I J a,I J p,Y S,I J n])/\TrC w' rb nv s B P u Q A op 0 at'/\Kept rb w w':=by
 have n0:¬Z w.1=rb:=md h.lt
 have n1:¬rb=Z w.1:=md h.lt
 have U:¬Z w.1+1=rb:=md h.lt
 have n3:¬rb=Z w.1+1:=md h.lt
 have ST:=qd (yU (w:=((w.alloc (Al #[I J 0,I J 0,I J 0,Y ⟨#[]⟩,I J 0] 171)).alloc (Al #[I J 4,I J a,I J p,Y S,I J n] 171))) ((h.alloc _).alloc _) hs hp H);obtain⟨lt,c0,c1,c2,c3,c4,c5,c6,c7,c8,c9,fz⟩:=h;clear H;go_enter func263,ntmps263
 go_wp2_with(go_at_call 92;refine be ST ?_;rintro d⟨M,t⟩;obtain⟨q,C⟩:=jY t;have p0:∀i,d.cell? ⟨Z w.1+1,i,O⟩=(#[I J 4,I J a,I J p,Y S,I J n]:Array Ap)[i]?:=(λi=>(q _ i ur U).trans ur);have T:∀i,d.cell? ⟨Z w.1,i,O⟩=(#[I J 0,I J 0,I J 0,Y ⟨#[]⟩,I J 0]:Array Ap)[i]?:=(λi=>(q _ i ut n0).trans ur);have rz:Xf d (Z w.1):=λi=>(C _ i ut n0).trans ur;have L8:=qd ((((Kept.refl rb w).alloc _).alloc _).trans t);have IR:=qd M;clear t M q C)
 all_goals go_wp2
 refine bo (by simp[go_sem,T]) rfl ⟨rfl,((((IR.other (b:=Z w.1) n0 0 _).other n0 1 _).other n0 2 _).other n0 3 _).other n0 4 _,((((L8.far (p:=⟨Z w.1,0,O⟩) ux _).far (p:=⟨Z w.1,1,O⟩) ux _).far (p:=⟨Z w.1,2,O⟩) ux _).far (p:=⟨Z w.1,3,O⟩) ux _).far (p:=⟨Z w.1,4,O⟩) ux _⟩
theorem qe{d C:Int}(h:TrC w rb nv s k a z S n op er at')(hk:k≠4)(F:∀W,TrC W rb nv s k a z S n op er at'->uo 94 #[Ag (G (D rb 0 O)),I J 2,I J a] W λe w'=>e=Ak (Aj #[])/\TrC w' rb nv s 1 a 0 ⟨#[]⟩ 0 op d C/\Kept rb W w'):
  uo 263 #[Ag (G (D rb 0 O))] w λe w'=>e=Ak (Ai #[I J k,I J a,I J z,Y S,I J n])/\TrC w' rb nv s 1 a 0 ⟨#[]⟩ 0 op d C/\Kept rb w w':=by
 have n0:¬Z w.1=rb:=md h.lt
 have n1:¬rb=Z w.1:=md h.lt
 have M:¬Z w.1+1=rb:=md h.lt
 have n3:¬rb=Z w.1+1:=md h.lt
 have T:=qd (F ((w.alloc (Al #[I J 0,I J 0,I J 0,Y ⟨#[]⟩,I J 0] 171)).alloc (Al #[I J k,I J a,I J z,Y S,I J n] 171)) ((h.alloc _).alloc _));clear F;obtain⟨lt,c0,c1,c2,c3,c4,c5,c6,c7,c8,c9,fz⟩:=h;go_enter func263,ntmps263
 go_wp2_with(go_at_call 94;refine be T ?_;rintro q⟨B,u⟩;obtain⟨t,A⟩:=jY u;have p0:∀i,q.cell? ⟨Z w.1+1,i,O⟩=(#[I J k,I J a,I J z,Y S,I J n]:Array Ap)[i]?:=(λi=>(t _ i ur M).trans ur);have H:∀i,q.cell? ⟨Z w.1,i,O⟩=(#[I J 0,I J 0,I J 0,Y ⟨#[]⟩,I J 0]:Array Ap)[i]?:=(λi=>(t _ i ut n0).trans ur);have U:Xf q (Z w.1):=λi=>(A _ i ut n0).trans ur;have P:=qd ((((Kept.refl rb w).alloc _).alloc _).trans u);have Q:=qd B;clear u B t A)
 all_goals go_wp2
 refine bo (by simp[go_sem,H]) rfl ⟨rfl,((((Q.other (b:=Z w.1) n0 0 _).other n0 1 _).other n0 2 _).other n0 3 _).other n0 4 _,((((P.far (p:=⟨Z w.1,0,O⟩) ux _).far (p:=⟨Z w.1,1,O⟩) ux _).far (p:=⟨Z w.1,2,O⟩) ux _).far (p:=⟨Z w.1,3,O⟩) ux _).far (p:=⟨Z w.1,4,O⟩) ux _⟩
end
inductive PS where
 | st (x:St)
 | er (en pl:Int)
def AT(w:Ao)(rb:Nat)(nv:Ap)(s:ByteArray)(op:Nat):PS->Prop
 | .st x=>TrC w rb nv s (rK x.tk.Q) x.U (tkZ x) (BS (tkS x)) (tkN x) op 0 0/\Fine s x/\x.op=op
 | .er en pl=>en≠0/\∃a,TrC w rb nv s 1 a 0 ⟨#[]⟩ 0 op en pl
def qn6(s:ByteArray)(c:Int):PS->PS
 | .st x=>if x.tk.Q=c then .st (qh s x) else .er 2 x.U
 | .er en pl=>.er en pl
def qkk(s:ByteArray):PS->PS
 | .st x=>if x.tk.Q=4 then .st (qh s x) else .er 2 x.U
 | .er en pl=>.er en pl
theorem qjc(h:y.tk.Q=c):qn6 s c (.st y)=.st (qh s y):=bs h
theorem qjb(h:¬y.tk.Q=c):qn6 s c (.st y)=.er 2 y.U:=ak h
theorem qe2(h:y.tk.Q=4):qkk s (.st y)=.st (qh s y):=bs h
theorem qe1(h:¬y.tk.Q=4):qkk s (.st y)=.er 2 y.U:=ak h
def vvt:PS->ByteArray->Prop
 | .st x,S=>S=BS (tkS x)
 | .er _ _,_=>True
section
variable {w:Ao} {rb:Nat} {nv:Ap} {s:uj} {op:Nat} {x:PS}
theorem AT.c0(h:AT w rb nv s op x):Xc w rb 0 nv:=by
 cases x with
 | st x=>exact h.1.c0
 | er en pl=>obtain⟨_,a,h⟩:=h;exact h.c0
theorem AT.tr(h:AT w rb nv s op x)(i:But L w w')(q:rb≠L):AT w' rb nv s op x:=by
 cases x with
 | st x=>grind[But.tr,AT,But]
 | er en pl=>obtain⟨d,a,h⟩:=h;exact⟨d,a,i.tr q h⟩
theorem vvy(h:AT w rb nv s op (.st y))(q:s.size<=200)(A:y.tk.Q≠1):
  uo 92 #[Ag (G (D rb 0 O))] w λe w'=>e=Ak (Aj #[])/\Kept rb w w'/\AT w' rb nv s op (.st (qh s y)):=by
 obtain⟨d,i,t⟩:=h;rw[show tkZ y=(y.H:Int) by unfold tkZ;rw[ak A]]at d;refine be (yU d q i.H (kq s y)) ?_;rintro w'⟨B,u⟩;exact⟨rfl,u,B,qH s y i.H,t⟩
theorem vth(h:AT w rb nv s op x)(B:s.size<=200)(c:Int)(P:kwT c=T X.data)(Q:5<=c)(U:c<=28)(H:rK c=kind):
  uo 262 #[Ag (G (D rb 0 O)),I J kind,Y X] w λe w'=>e=Ak (Aj #[])/\Kept rb w w'/\AT w' rb nv s op (qn6 s c x):=by
 cases x with
 | st y=>
  have t:=isK (st:=y) P Q U kind H;obtain⟨d,A,C⟩:=h
  by_cases hc:y.tk.Q=c
  .rw[qjc hc]
   rw[hc,mu]at t;rw[show tkZ y=(y.H:Int) by grind[tkZ,AT,Kept]]at d;have M:(rK c==kind)=ui/\((BS (tkS y)).toList==X.toList)=ui:=by simpa using t
   refine be (quz d B A.H (kq s y) kind X (by rwa[hc]) M.2) ?_;rintro w'⟨q,i⟩;exact⟨rfl,i,q,qH s y A.H,C⟩
  grind[qjb,qk6,Below.mono,Calls.mono,AT,Kept]
 | er en pl=>
  obtain⟨u,a,d⟩:=h;refine be (qnx d u kind X (by grind[rK,AT,Kept])) ?_;rintro w'⟨q,i⟩;exact⟨rfl,i,u,a,q⟩
theorem vvz(h:AT w rb nv s op x)(A:s.size<=200):
  uo 263 #[Ag (G (D rb 0 O))] w λe w'=>∃(k a z:Int) (S:uj) (n:Int),e=Ak (Ai #[I J k,I J a,I J z,Y S,I J n])/\Kept rb w w'/\AT w' rb nv s op (qkk s x)/\vvt x S:=by
 cases x with
 | st y=>
  obtain⟨d,u,B⟩:=h
  by_cases hc:y.tk.Q=4
  .rw[qe2 hc]
   rw[show tkZ y=(y.H:Int) by grind[tkZ],show rK y.tk.Q=4 by rw[hc];rfl]at d;refine be (qnl d A u.H (kq s y)) ?_;rintro w'⟨q,i⟩;exact⟨_,_,_,_,_,rfl,i,⟨q,qH s y u.H,B⟩,rfl⟩
  rw[qe1 hc];refine be (qe d (by grind[rK]) λ_ h=>gw h _ _) ?_;rintro w'⟨q,i⟩;exact⟨_,_,_,_,_,rfl,i,⟨uu,_,q⟩,rfl⟩
 | er en pl=>
  obtain⟨t,a,d⟩:=h;refine be (qe d uu λ_ h=>qfz h t _ _) ?_;rintro w'⟨q,i⟩;exact⟨_,_,_,_,_,rfl,i,⟨t,a,q⟩,trivial⟩
theorem vxk(h:AT w rb nv s op x)(M:NodesAt w rb nv ns)(B:A ns<=100000)(p:Pay)(hp:p.M=0)(ins:List Nat)(neg:Bool)(i:BS (qJ p.op)=N)(U:BS p.str=S)(Z:BS p.esc=E)(H:RowOf w rb 3 iv (qau ins))(C:RowOf w rb 9 lv (qx p.i)):
  uo 130 #[Ag (G (D rb 0 O)),Ai #[Y N,I J p.U,iv,Y S,Y E,lv,I J 0,Ah neg,I J 0]] w
   λe w'=>e=Ak (I J (A ns))/\TKept rb w w'/\∃d,AT w' rb d s op x/\NodesAt w' rb d (ns++[jR p ins neg]):=by
 subst i U Z;have P:(jR p ins neg).M=p.M:=rfl
 cases x with
 | st y=>
  have:=qb9 h.1 M (jR p ins neg) H C B;rw[P,hp]at this;refine be this ?_;rintro w'⟨q,d,t,u⟩;exact⟨rfl,q,d,⟨t,h.2⟩,u⟩
 | er en pl=>
  obtain⟨Q,a,T⟩:=h;have:=qb9 T M (jR p ins neg) H C B;rw[P,hp]at this;refine be this ?_;rintro w'⟨q,d,t,u⟩;exact⟨rfl,q,d,⟨Q,a,t⟩,u⟩
end
structure Mid(rb L:Nat)(w w':Ao):Prop where
 os:w'.os=w.os
 tape:w'.tape=w.tape
 output:w'.output=w.output
 size:w.1.size<=w'.1.size
 block:∀k,k<w.1.size->k≠rb->k≠L->w'.1[k]?=w.1[k]?
section
variable {L rb:Nat} {w w' w'':Ao} {ty:TypeId} {cs:Array Ap}
theorem Mid.refl(rb L:Nat)(w:Ao):Mid rb L w w:=by grind[Mid]
theorem Mid.P(h:Mid rb L w w')(k:Kept rb w' w''):Mid rb L w w'':=by grind[Mid,Kept]
theorem Mid.but(h:Mid rb L w w')(k:But L w' w''):Mid rb L w w'':=by grind[Mid,But]
theorem Mid.far(h:Mid rb L w w'){p:Addr}(hp:Z w.1<=p.block)(u:Ap):Mid rb L w (B w' p u):=⟨h.os,h.tape,h.output,by have:=h.size;simpa using this,λi t d q=>(bi w' p u i uq).trans (h.block i t d q)⟩
theorem quk(c:Xc w rb 0 nv)(d:Xc w' rb 0 nv)(k:Nat):qat w' rb k↔qat w rb k:=by grind[qat]
theorem Mid.row(h:Mid rb L w w')(c:Xc w rb 0 nv)(q:Xc w' rb 0 nv)(hv:VN w rb L ty cs)(d:ty'≠ty)(i:RowOf w rb ty' v vs):RowOf w' rb ty' v vs:=by
 grind[quk,Mid,VN,RowOf]
theorem Mid.nodes(h:Mid rb L w w')(c:Xc w rb 0 nv)(B:Xc w' rb 0 nv)(hv:VN w rb L ty cs)(I:(3:TypeId)≠ty)(H:(9:TypeId)≠ty)(G:NodesAt w rb nv ns):NodesAt w' rb nv ns:=by
 obtain⟨C,D,d,t⟩:=G;refine⟨C,D,vo d λg q=>h.block g (d.lt g q).2 (md ((d.lt g q).1)) (λe=>hv.no (An ⟨nv,c,e ▸ q⟩)),λi n r A u=>⟨h.row c B hv I (t i n r A u).1,h.row c B hv H (t i n r A u).2⟩⟩
theorem TKept.mid{a:Ao}(d:TKept rb a w)(h:Mid rb L w w')(c:Xc w rb 0 nv)(u:Xc w' rb 0 nv)(hp:Z a.1<=L):TKept rb a w':=
 ⟨h.os.trans d.os,h.tape.trans d.tape,h.output.trans d.output,bu d.size h.size,λk i q=>(h.block k (au i d.size) (λe=>q (Am e)) uq).trans (d.block k i q),λk i t=>d.own k i ((quk c u k).1 t)⟩
end
structure AmV(W:Ao)(rb L Tb:Nat)(cs:Ap->Array Ap)(lv:Ap)(ts:List (List UInt8))(wr:Ao):Prop where
 mid:Mid rb L W wr
 nb:wr.1[L]?=G (Al (cs lv) 178 (0,0))
 tb:∃k a z S n,wr.1[Tb]?=G (Al #[I J k,I J a,I J z,Y S,I J n] 171 (0,0))
 tp:W.1.size<=Tb
 row:ue wr W.1.size 9 1 lv (A ts) (qx ts)
section
variable {W:Ao} {rb L Tb:Nat} {cs:Ap->Array Ap} {lv:Ap} {ts:List uk} {wr w':Ao}
theorem AmV.P(h:AmV W rb L Tb cs lv ts wr)(B:L<Z W.1)(C:rb<L)(d:Kept rb wr w'):AmV W rb L Tb cs lv ts w':=by
 obtain⟨mid,u,⟨k,a,z,S,n,i⟩,t,row⟩:=h;have A:=(ch.1 i).1;exact⟨mid.P d,(d.block L uq uq).trans u,⟨k,a,z,S,n,(d.block Tb A uq).trans i⟩,t,vo row λg q=>d.block g (row.lt g q).2 (md ((row.lt g q).1))⟩
theorem kS{c:Array Ap}(h:w.1[b]?=G (Al c ty (0,0))):(∀i,w.cell? (D b i O)=c[i]?)/\Xf w b:=by grind[World.cell?,World.frozen?]
theorem qao{c:Array Ap}(h:w.1[b]?=G (Al c ty (0,0)))(i:Nat)(u:Ap):(B w (D b i O) u).1[b]?=G (Al (c.setIfInBounds i u) ty (0,0)):=by
 simp[B,iy,h]
theorem AmV.tok(h:AmV W rb L Tb cs lv ts wr)(T:L<Z W.1)(k a z:Int)(S:uj)(n:Int):
  AmV W rb L Tb cs lv ts (B (B (B (B (B wr (D Tb 0 O) (I J k)) (D Tb 1 O) (I J a)) (D Tb 2 O) (I J z)) (D Tb 3 O) (Y S)) (D Tb 4 O) (I J n)):=by
 obtain⟨mid,P,⟨Q,a0,M,S0,n0,u⟩,i,row⟩:=h
 have t:∀g,ug lv=G g->g≠Tb:=by
  intro g d e;obtain⟨_,C|⟨U,cap,cur,rfl,_,A,_⟩⟩:=row;rw[C.1]at d;cases d;injection d with d;subst d;subst e;rw[u]at A;injection A with e;injection e with _ H _;exact absurd H uu
 have q:L≠Tb:=uq;refine⟨((((mid.far (p:=D Tb 0 O) i _).far (p:=D Tb 1 O) i _).far (p:=D Tb 2 O) i _).far (p:=D Tb 3 O) i _).far (p:=D Tb 4 O) i _, ?_,⟨k,a,z,S,n,qao (qao (qao (qao (qao u 0 _) 1 _) 2 _) 3 _) 4 _⟩,i,vo row λg d=>?_⟩;rwa[bi _ ⟨Tb,4,O⟩ _ L q,bi _ ⟨Tb,3,O⟩ _ L q,bi _ ⟨Tb,2,O⟩ _ L q,bi _ ⟨Tb,1,O⟩ _ L q,bi _ ⟨Tb,0,O⟩ _ L q];have hg':=t g d;rw[bi _ ⟨Tb,4,O⟩ _ g hg',bi _ ⟨Tb,3,O⟩ _ g hg',bi _ ⟨Tb,2,O⟩ _ g hg',bi _ ⟨Tb,1,O⟩ _ g hg',bi _ ⟨Tb,0,O⟩ _ g hg']
theorem AmV.app(h:AmV W rb L Tb cs lv ts wr)(hL:L<Z W.1)(cC:rb<L)(J3:∀u v,(cs u).setIfInBounds 5 v=cs v)(hn:A ts<=1000)(S:uj):
  ∃g cap d,(appR #[31,31] 31 #[lv,C (G ⟨Z wr.1,0,O⟩) 1 1]).run prog (wr.alloc (Al #[Y S] 9))=.ok (C (G (D g 0 O)) (A ts+1) cap) d /\
   d.1[L]?=G (Al (cs lv) 178 (0,0))/\(d.1[rb]?=wr.1[rb]?)/\Z wr.1<=Z d.1 /\
   AmV W rb L Tb cs (C (G (D g 0 O)) (A ts+1) cap) (ts++[T S.data]) (B d (D L 5 O) (C (G (D g 0 O)) (A ts+1) cap)):=by
 obtain⟨mid,nb,⟨k0,a0,z0,S0,n0,U⟩,tp,row⟩:=h;obtain⟨i,hi,F5,B9,D8⟩:=info_parts qey;have hz:=mid.size;have hTlt:=(ch.1 U).1;have q:Xb wr (wr.alloc (Al #[Y S] 9)):=uy.alloc ux _;obtain⟨g,cap,d,hr,iB,H,_,_⟩:=run_append_lies (P:=prog) (wr.alloc (Al #[Y S] 9)) 31 31 (Z W.1) 9 i _ 1 16 underlying31 hi F5 B9 D8 rfl uq lv (A ts) _ (World.ownsRow.alloc row _) ⟨Z wr.1,0,O⟩ 1 1 [Y S] rfl
  (by
   intro j u M;obtain _|j:=j
   .simp at M;subst M;simp[Addr.add]
   .simp at M) (by simp[Value.oneCell']) uq (by unfold maxLen;omega) uq ut _ rfl
 have hne:∀g,ug lv=G g->g≠Tb/\Z W.1<=g:=by
  intro g t;refine⟨λe=>?_,(row.lt g t).1⟩;obtain⟨_,hx|⟨g',cap,cur,rfl,_,I3,_⟩⟩:=row;rw[hx.1]at t;cases t;injection t with t;subst t;subst e;rw[U]at I3;injection I3 with e;injection e with _ e2 _;exact absurd e2 uu
 have J:∀k,k<Z wr.1->ug lv≠G k->d.1[k]?=wr.1[k]?:=λk I cM=>(H.block k (au I q.size) (λe=>cM e.symm)).trans (q.block k I)
 have AG:d.1[L]?=wr.1[L]?:=J L uq (λe=>by grind);have lQ:d.1[rb]?=wr.1[rb]?:=J rb uq (λe=>by grind);have Q:Mid rb L W d:=⟨(H.os.trans q.os).trans mid.os,(H.tape.trans q.tape).trans mid.tape,(H.output.trans q.output).trans mid.output,bu (bu hz q.size) H.size,λk I h1 h2=>(J k uq (λe=>by grind)).trans (mid.block k I h1 h2)⟩;refine⟨g,cap,d,hr,AG.trans nb,lQ,bu q.size H.size,Q.but ((But.refl L d).set 5 _), ?_,⟨k0,a0,z0,S0,n0, ?_⟩,tp, ?_⟩;rw[qao (AG.trans nb),J3]
 grind[Below.heap_setCell]
 rw[cd,qx,dq];exact ownsRow_setCell_below iB (by show L<_;omega) _
end
section
attribute [local go_sem ↓] vr
theorem TrC.blk{n op:Int}(h:TrC w rb nv s k a z S n op er at')(d:w'.1[rb]?=w.1[rb]?):TrC w' rb nv s k a z S n op er at':=by
 grind[World.cell?,World.cell?_of_block,World.frozen?,World.frozen?_of_block,Below.trans,TrC]
theorem AT.blk{x:PS}(h:AT w rb nv s op x)(i:w'.1[rb]?=w.1[rb]?):AT w' rb nv s op x:=by
 cases x with
 | st x=>grind[TrC.blk,AT]
 | er en pl=>obtain⟨d,a,h⟩:=h;exact⟨d,a,h.blk i⟩
theorem vnp(h:AT w rb nv s op (.st y)):meT s w rb=s.size+2 - y.U:=by
 have i:=h.1.c3;have d:=h.1.c8
 grind[meT,plT]
theorem vv2(h:AT w rb nv s op (.er en pl)):meT s w rb=0:=by
 obtain⟨d,a,h⟩:=h;unfold meT;rw[h.c8];grind
theorem tis(h:AT w rb nv s op (.st y))(c:Int)(i:kwT c=T X.data)(q:5<=c)(t:c<=28)(d:rK c=kind):
  uo 129 #[Ag (G (D rb 0 O)),I J kind,Y X] w λe w'=>e=Ak (Ah (y.tk.Q==c))/\w'=w:=by
 have:=pk h.1 kind X;rwa [isK i q t kind d]at this
def qkv(s:ByteArray)(l:Ast)(pl lo:Nat)(R:Res)(ts:List (List UInt8))(n:Nat):PS->Prop
 | .st sl=>R=xr s l pl n ts sl/\s.size<n+sl.U/\A ts<=sl.U/\lo<sl.U
 | .er en p=>R=.err en p/\A ts<=300
def vxo(W:Ao)(rb L Tb:Nat)(cs:Ap->Array Ap)(nv:Ap)(s:ByteArray)(op:Nat)(l:Ast)(pl:Nat)(R:Res)(wr:Ao):Prop:=
 ∃x lv ts n,AmV W rb L Tb cs lv ts wr/\AT wr rb nv s op x/\qkv s l pl pl R ts n x
theorem vu0{pl:Nat}{x:PS}(i:s.size<=200)(h:AT w rb nv s op x)(d:qkv s l pl lo R ts n x):A ts<=300:=by
 cases x with
 | st y=>have:=h.2.1.U;have:=d.2.2.1;omega
 | er en p=>exact d.2
theorem vgp(i:Fine s st)(C:st.tk.Q=11)(d:vvt (qn6 s 26 (.st (qh s st))) S):qkv s l st.U st.U (y7 s l st) ([]++[T S.data]) (s.size+1) (qkk s (qn6 s 26 (.st (qh s st)))):=by
 have q:=qH s st i.H;have B:=i.W uq;unfold y7
 by_cases k26:(qh s st).tk.Q=26
 .rw[qjc k26]at d |-
  rw[bs k26];have t:=qH s _ q.H;have A:=q.W uq
  by_cases k4:(qh s (qh s st)).tk.Q=4
  .rw[qe2 k4,bs k4]
   have u:=t.W uq
   have e:T S.data=(qh s (qh s st)).tk.str:=by
    rw[show S=BS (tkS (qh s (qh s st))) from d,zW];unfold tkS rS;rw[ak uq,bs uq]
   rw[ij,e];exact⟨rfl,uq,ut,uq⟩
  grind[qe1,qkv]
 rw[qjb k26,ak k26];exact⟨rfl,ur⟩
theorem vps{pl:Nat}(D:s.size<=200)(i:Fine s sl)(q:sl.tk.Q=28)(h:qkv s l pl lo R ts n (.st sl))(u:vvt (.st (qh s sl)) S):∃d,qkv s l pl lo R (ts++[T S.data]) d (qkk s (.st (qh s sl))):=by
 obtain⟨t,G,C,H⟩:=h;have hp:=i.U;obtain⟨d,rfl⟩:∃d,n=d+1:=⟨n - 1,uq⟩;have A:=qH s sl i.H;have B:=i.W uq
 by_cases k4:(qh s sl).tk.Q=4
 .have p2:=A.W uq
  have e:T S.data=(qh s sl).tk.str:=by
   rw[show S=BS (tkS (qh s sl)) from u,zW];unfold tkS rS;rw[ak uq,bs uq]
  rw[qe2 k4,e];exact⟨d,by rw[t,qeu q k4],uq,ut,uq⟩
 rw[qe1 k4];exact⟨0,by rw[t,qhd q k4],ut⟩
theorem vne{pl:Nat}{x:PS}(hs:s.size<=200)(hm:201<=m){U:Ao}{u:Ap}{ns new:List RN}{neg:Bool}{t:Int}(U4:i0=A ns+A new - 1)(T:Flat l (A ns) new)(D:A (ns++new)+j<=pl)(J5:pl<=200)
  (Y:AT U rb u s op x) (H:qkv s l pl pl R ts n x) (Q:∀y,x=.st y->¬y.tk.Q=28) (Z:TKept rb w w') (d:AT w' rb nv s op (qn6 s 27 x)) (q:NodesAt w' rb nv ((ns++new)++[jR ⟨21,pl,0,[],[],ts⟩ [i0] neg])) {v:Int} (hv:v=(A (ns++new):Nat)) :
  REnds rb s w op m ns j pl (vjd neg t R) (Ak (I J v)) w':=by
 subst hv;refine⟨Z, ?_⟩
 cases x with
 | er en p=>
  rw[show R=.err en p from H.1];obtain⟨B,a,i⟩:=d;exact⟨_,rfl,nv,a,_,i,B,q,by simp at D |-;omega⟩
 | st sl=>
  obtain⟨O,hn,ht,dI⟩:=H;have P:=Y.2.1;have hp:=P.U;obtain⟨G,rfl⟩:∃G,n=G+1:=⟨n - 1,uq⟩
  by_cases k27:sl.tk.Q=27
  .rw[qjc k27]at d
   have p1:=P.W uq;rw[show R=.ok (.un ⟨21,pl,0,[],[],ts⟩ l) (qh s sl) by rw[O,qhe (Q sl rfl) k27]];obtain⟨i,C,M⟩:=d;rw[bw]at q;refine⟨new++[jR ⟨21,pl,0,[],[],ts⟩ [i0] neg],js ur,⟨nv, ?_,q,C,by simp at D |-;omega⟩,M,uq, ?_⟩;rwa[M];subst U4
   cases neg with
   | false=>exact Flat.un _ T
   | true=>exact Flat.neg1 _ _ (Am rfl) T
  rw[qjb k27]at d;rw[show R=.err 2 sl.U by rw[O,qev (Q sl rfl) k27]];obtain⟨B,a,i⟩:=d;exact⟨_,rfl,nv,a,_,i,B,q,by simp at D |-;omega⟩
theorem vpr(i:Fine s (qh s sl))(d:sl.U<(qh s sl).U)(q:(qh s sl).U<=s.size)(h:AT w rb nv s op (qkk s (.st (qh s sl)))):meT s w rb<s.size+2 - sl.U:=by
 grind[qe2,vnp,zN,qe1,vv2,Fine]
theorem qp0(d:ue w uc 9 1 lv n (qx ts))(t:rb<uc)(i:∀k,uc<=k->¬qat w rb k):RowOf w rb 9 lv (qx ts):=by
 obtain⟨q,h|⟨g,cap,cur,rfl,u,_⟩⟩:=d<;>grind[RowOf.no,qat,RowOf]
theorem qhl(rb:Nat)(s:uj)(t:s.size<=200)(op m:Nat)(hm:201<=m)(w:Ao)(st:St)(ns new:List RN)(j:Nat)(l:Ast)(h:RT w rb s (ns++new) j st)(ho:st.op=op)(hk:st.tk.Q=11)(F9:Flat l (A ns) new)(i0:Nat)(U4:i0=A ns+A new - 1)(g:Nat)(hg:VN w rb g 3 #[I J i0])(neg:Bool)(pl0:Int):
  uo 240 #[Ag (G (D rb 0 O)),Ai #[Y ⟨#[]⟩,I J st.U,C (G (D g 0 O)) 1 1,Y ⟨#[]⟩,Y ⟨#[]⟩,C O 0 0,I J 0,Ah neg,I J 0]] w (REnds rb s w op m ns j st.U (vjd neg pl0 (y7 s l st))):=by
 have A1:=h.lt;have n0:¬Z w.1=rb:=uq;have n1:¬rb=Z w.1:=uq;have hV0:VN (w.alloc (Al #[Y ⟨#[73,78]⟩,I J st.U,C (G (D g 0 O)) 1 1,Y ⟨#[]⟩,Y ⟨#[]⟩,C O 0 0,I J 0,Ah neg,I J 0] 178)) rb (Z w.1) 178 #[Y ⟨#[73,78]⟩,I J st.U,C (G (D g 0 O)) 1 1,Y ⟨#[]⟩,Y ⟨#[]⟩,C O 0 0,I J 0,Ah neg,I J 0]:=VN.new h _ _ rfl;have KY:TKept rb w (w.alloc (Al #[Y ⟨#[73,78]⟩,I J st.U,C (G (D g 0 O)) 1 1,Y ⟨#[]⟩,Y ⟨#[]⟩,C O 0 0,I J 0,Ah neg,I J 0] 178)):=(TKept.refl rb w).alloc A1 _;have hG0:VN (w.alloc (Al #[Y ⟨#[73,78]⟩,I J st.U,C (G (D g 0 O)) 1 1,Y ⟨#[]⟩,Y ⟨#[]⟩,C O 0 0,I J 0,Ah neg,I J 0] 178)) rb g 3 #[I J i0]:=hg.alloc A1 _;have GX:RowOf (w.alloc (Al #[Y ⟨#[73,78]⟩,I J st.U,C (G (D g 0 O)) 1 1,Y ⟨#[]⟩,Y ⟨#[]⟩,C O 0 0,I J 0,Ah neg,I J 0] 178)) rb 3 (C (G (D g 0 O)) 1 1) (qau [i0]):=An ⟨g,1,#[I J i0],(0,0),rfl,hG0.past,hG0.blk,hG0.no,λj u hu=>by simpa [qau]using hu⟩;have K7:=h.few;have O4:=h.y;have UO:=O4.U;have h0:=h.alloc (Al #[Y ⟨#[73,78]⟩,I J st.U,C (G (D g 0 O)) 1 1,Y ⟨#[]⟩,Y ⟨#[]⟩,C O 0 0,I J 0,Ah neg,I J 0] 178);have UF:=h0.own_lt;obtain⟨nv,hT0,hN0,_,_⟩:=h0;have PO:AT (w.alloc (Al #[Y ⟨#[73,78]⟩,I J st.U,C (G (D g 0 O)) 1 1,Y ⟨#[]⟩,Y ⟨#[]⟩,C O 0 0,I J 0,Ah neg,I J 0] 178)) rb nv s op (.st st):=⟨by rwa[<-ho],O4,ho⟩;have bW:=hT0.c0;have hW:Z (w.alloc (Al #[Y ⟨#[73,78]⟩,I J st.U,C (G (D g 0 O)) 1 1,Y ⟨#[]⟩,Y ⟨#[]⟩,C O 0 0,I J 0,Ah neg,I J 0] 178)).1=Z w.1+1:=ur;have EXT:∃W:Ao,W=(w.alloc (Al #[Y ⟨#[73,78]⟩,I J st.U,C (G (D g 0 O)) 1 1,Y ⟨#[]⟩,Y ⟨#[]⟩,C O 0 0,I J 0,Ah neg,I J 0] 178)):=⟨_,rfl⟩;obtain⟨W,XN⟩:=EXT;rw[<-XN]at hV0 KY GX UF hN0 PO bW hW;have HWe:=qd XN;have ST0:=qd (vvy PO t uq);rw[XN]at ST0;have DJ:=qd hV0;have oR:=qd KY;have oN:=qd GX;have LS:=qd hN0;have Q:=qd bW;have HOW:=qd UF;have V3:=qd F9;have eA:=qd U4;obtain⟨R,hR⟩:=ie (y7 s l st);have dC:Hid (∀S,vvt (qn6 s 26 (.st (qh s st))) S->qkv s l st.U st.U R ([]++[T S.data]) (s.size+1) (qkk s (qn6 s 26 (.st (qh s st))))):=qd λS hS=>hR ▸ vgp O4 hk hS
 rw[hR];obtain⟨CSX,PH⟩:∃f:Ap->Array Ap,f=λlv=>#[Y ⟨#[73,78]⟩,I J st.U,C (G (D g 0 O)) 1 1,Y ⟨#[]⟩,Y ⟨#[]⟩,lv,I J 0,Ah neg,I J 0]:=⟨_,rfl⟩
 have DR:=qd PH;have ZO:∀u v,(CSX u).setIfInBounds 5 v=CSX v:=by rw[PH];intro u v;rfl
 have SV:=qd ZO;go_enter func240,ntmps240
 go_wp2_with(first|(go_at_call 92;refine be ST0 ?_;rintro w1⟨A5,OX⟩;have L8:=qd (by rw[<-q9 HWe]at A5;exact A5:Kept rb W w1);have cK:=qd OX)|(go_at_call 262;refine be (vth cK t 26 rfl uu uu rfl) ?_;rintro w2⟨B8,wX⟩;have Q9:=qd (L8.trans B8);have oW:=qd wX)|(go_at_call 263;refine(vvz oW t).mono ?_;rintro e d⟨tk,ta,tz,H,tn,rfl,F2,UX,tA⟩;have fU:=(q9 Q9).trans F2;have S4:=fU.size;have hB:=But.alloc (But.refl (Z w.1) d) (Al #[I J tk,I J ta,I J tz,Y H,I J tn] 171);have hAm:AmV W rb (Z w.1) (Z d.1) CSX (C O 0 0) [] (d.alloc (Al #[I J tk,I J ta,I J tz,Y H,I J tn] 171)):=⟨((Mid.refl rb (Z w.1) W).P fU).but hB,(((Below.refl (Z d.1) d).alloc ux _).block _ uq).trans ((fU.block _ uq n0).trans (DJ.blk.trans (by rw[q9 DR]))),⟨tk,ta,tz,H,tn,heap_alloc_new d _⟩,S4,dw _ _ _ _⟩;have hAT:=UX.blk (hB.block rb uq n1);obtain⟨g6,m7,w6,fI,AG,lQ,hz6,VK⟩:=hAm.app uq uq SV ur H;have hap6':(appR #[31,31] 31 #[C O 0 0,C (G ⟨Z d.1+1,0,O⟩) 1 1]).run prog ((d.alloc (Al #[I J tk,I J ta,I J tz,Y H,I J tn] 171)).alloc (Al #[Y H] 9))=.ok (C (G (D g6 0 O)) 1 m7) w6:=(by have:=fI;rwa[mh]at this);have p5:Xc d (Z w.1) 5 (C O 0 0):=(bg (w:=W) (w':=d) (a:=⟨Z w.1,5,O⟩) (fU.block (Z w.1) uq n0)).trans (DJ.cell 5);have q5:Xc w6 (Z w.1) 5 (C O 0 0):=((kS AG).1 5).trans (by rw[q9 DR];rfl);have qz:Xf w6 (Z w.1):=(kS AG).2;have nLT:Z w.1<Z d.1:=uq;have hHT6:=(hAT.blk (w':=w6) lQ).tr ((But.refl (Z w.1) w6).set 5 (C (G (D g6 0 O)) 1 m7)) n1;have HA6:=qd VK;have HT6:=qd hHT6;have HSt:=qd tA))
 go_loopw [20] (λ_ wr=>Hid (vxo W rb (Z w.1) (Z d.1) CSX nv s op l st.U R wr)) (λ_ wr=>meT s wr rb)
 exact qd ⟨_,_,_,_,q9 HA6,q9 HT6,q9 dC _ HSt⟩;obtain⟨x,lv,ts,n,rF,P,fX⟩:=q9 hrel;have A6:=vu0 t P fX;have HAV:=qd rF;have tW:=qd P;have VZ:=qd fX
 cases x with
 | er en pl=>
  have c8:Xc wr rb 8 (I J en):=by obtain⟨_,a,hT⟩:=P;exact hT.c8
  have mB:(en==0)=uh:=aw.2 P.1;have MA:Hid (∀y,(PS.er en pl)=.st y->¬y.tk.Q=28):=qd λy e=>by cases e
  go_wp2_with(first|(go_at_call 262;refine be (vth tW t 27 rfl uu uu rfl) ?_;rintro w7⟨bS,OW⟩;have M:=(q9 HAV).P uq uq bS;have NW:=M.mid;have MW:=M.row;obtain⟨U,z7⟩:=kS M.nb;rw[q9 DR]at U;have r0:∀i,w7.cell? ⟨Z w.1,i,O⟩=(#[Y ⟨#[73,78]⟩,I J st.U,C (G (D g 0 O)) 1 1,Y ⟨#[]⟩,Y ⟨#[]⟩,lv,I J 0,Ah neg,I J 0]:Array Ap)[i]?:=(λi=>U i);have oQ:=qd NW;have HW7:=qd MW;have q:=qd OW;clear bS OW M U z7 NW MW)|(go_at_call 130;refine be (vxk q (oQ.nodes Q q.c0 DJ uu uu LS) uq ⟨21,st.U,0,[],[],ts⟩ rfl [i0] neg rfl rfl rfl (oQ.row Q q.c0 DJ uu oN) (qp0 HW7 uq (λk J8 iB=>md (q9 HOW k ((quk Q q.c0 k).1 iB))))) ?_;rintro w8⟨FV,nv8,OV,iZ⟩;have HK8:=qd ((oR.mid oQ Q q.c0 ux).trans FV);have HA8:=qd OV;have RK:=qd iZ;clear FV OV iZ))
  go_ret;exact vne (new:=new) t hm eA V3 K7 uq tW VZ MA HK8 HA8 RK ur
 | st sl=>
  have c8:Xc wr rb 8 (I J 0):=P.1.c8
  by_cases k28:sl.tk.Q=28
  .have EX:(sl.tk.Q==28)=ui:=by rw[k28];rfl
   have hmu:=vnp P;have wO:=P.2.1;have rT:=wO.W uq;have RQ:=qd hmu;have ZE:=(qH s sl wO.H).U;have HFS1:=qd (qH s sl wO.H);have dZ:Hid (∀S,vvt (.st (qh s sl)) S->∃n',qkv s l st.U st.U R (ts++[T S.data]) n' (qkk s (.st (qh s sl)))):=qd λS hS=>vps t wO k28 fX hS
   have hsp1:=wO.U;clear rF P fX hrel HA6 HT6 dC HSt hmu
   go_wp2_with(first|(go_at_call 129;refine be (tis tW 28 (X:=⟨#[44]⟩) rfl uu uu rfl) λw' hw'=>?_;subst w';rw[EX])|(go_at_call 92;refine be (vvy tW t uq) ?_;rintro w2x⟨B8,wX⟩;have HAV2:=qd (HAV.P uq uq B8);have HAT2:=qd wX;clear B8 wX)|(go_at_call 263;refine(vvz HAT2 t).mono ?_;rintro e w3x⟨tk,ta,tz,H,tn,rfl,F2,UX,tA⟩;have mK:=(q9 HAV2).P uq uq F2;obtain⟨k0,a0,z0,S0,m0,rR⟩:=mK.tb;obtain⟨y3,yz⟩:=kS rR;have y0:∀i,w3x.cell? ⟨Z d.1,i,O⟩=(#[I J k0,I J a0,I J z0,Y S0,I J m0]:Array Ap)[i]?:=(λi=>y3 i);have l5:Xc w3x (Z w.1) 5 lv:=((kS mK.nb).1 5).trans (by rw[q9 DR];rfl);have nQ:=mK.tok uq tk ta tz H tn;obtain⟨g6x,cap6x,w6x,OT,AG,lQ,hz6x,VK⟩:=nQ.app uq uq SV uq H;simp only[size_setCell]at OT;have q5x:Xc w6x (Z w.1) 5 lv:=((kS AG).1 5).trans (by rw[q9 DR];rfl);have qzx:Xf w6x (Z w.1):=(kS AG).2;have sZ:¬rb=Z d.1:=uq;have PM:AT (B (B (B (B (B w3x ⟨Z d.1,0,O⟩ (I J tk)) ⟨Z d.1,1,O⟩ (I J ta)) ⟨Z d.1,2,O⟩ (I J tz)) ⟨Z d.1,3,O⟩ (Y H)) ⟨Z d.1,4,O⟩ (I J tn)) rb nv s op (qkk s (.st (qh s sl))):=((((UX.tr ((But.refl (Z d.1) _).set 0 _) sZ).tr ((But.refl (Z d.1) _).set 1 _) sZ).tr ((But.refl (Z d.1) _).set 2 _) sZ).tr ((But.refl (Z d.1) _).set 3 _) sZ).tr ((But.refl (Z d.1) _).set 4 _) sZ;have IC:=(PM.blk (w':=w6x) lQ).tr ((But.refl (Z w.1) w6x).set 5 (C (G (D g6x 0 O)) (A ts+1) cap6x)) n1;have LT:=qd (vpr HFS1 rT ZE IC);have nLTb:¬Z w.1=Z d.1:=uq;have nLTb':¬Z d.1=Z w.1:=uq;have HA6x:=qd VK;have HT6x:=qd IC;have HS3:=qd tA;clear F2 UX tA mK rR y3 nQ AG lQ VK PM IC))
   go_roundw
   obtain⟨n',cM⟩:=q9 dZ _ HS3;exact qd ⟨_,_,_,n',q9 HA6x,q9 HT6x,cM⟩;rw[q9 RQ];have:=q9 LT;omega
  have EX:(sl.tk.Q==28)=uh:=aw.2 k28;have MA:Hid (∀y,(PS.st sl)=.st y->¬y.tk.Q=28):=qd λy e=>by injection e with e;subst e;exact k28
  clear rF P fX hrel HA6 HT6 dC HSt
  go_wp2_with(first|(go_at_call 129;refine be (tis tW 28 (X:=⟨#[44]⟩) rfl uu uu rfl) λw' hw'=>?_;subst w';rw[EX])|(go_at_call 262;refine be (vth tW t 27 rfl uu uu rfl) ?_;rintro w7⟨bS,OW⟩;have M:=(q9 HAV).P uq uq bS;have NW:=M.mid;have MW:=M.row;obtain⟨U,z7⟩:=kS M.nb;rw[q9 DR]at U;have r0:∀i,w7.cell? ⟨Z w.1,i,O⟩=(#[Y ⟨#[73,78]⟩,I J st.U,C (G (D g 0 O)) 1 1,Y ⟨#[]⟩,Y ⟨#[]⟩,lv,I J 0,Ah neg,I J 0]:Array Ap)[i]?:=(λi=>U i);have oQ:=qd NW;have HW7:=qd MW;have q:=qd OW;clear bS OW M U z7 NW MW)|(go_at_call 130;refine be (vxk q (oQ.nodes Q q.c0 DJ uu uu LS) uq ⟨21,st.U,0,[],[],ts⟩ rfl [i0] neg rfl rfl rfl (oQ.row Q q.c0 DJ uu oN) (qp0 HW7 uq (λk J8 iB=>md (q9 HOW k ((quk Q q.c0 k).1 iB))))) ?_;rintro w8⟨FV,nv8,OV,iZ⟩;have HK8:=qd ((oR.mid oQ Q q.c0 ux).trans FV);have HA8:=qd OV;have RK:=qd iZ;clear FV OV iZ))
  go_ret;exact vne (new:=new) t hm eA V3 K7 uq tW VZ MA HK8 HA8 RK ur
end
theorem qya(p:uj)(hp:p.size<=200)(e:UInt8)(w:Ao):
  uo 264 #[Y p,I .u8 e.toNat] w λen w'=>en=Ak (Ah (xo [e] (T p.data)).isSome)/\w'=w:=by
 obtain⟨R,q⟩:=ie ((xo [e] (T p.data)).isSome);rw[q];have D:=qd q;clear q;go_enter func264,ntmps264
 go_wp2
 go_loop [5] (λiv=>∃k:Nat,k<=p.size/\iv=I J k/\Hid (R=(xo [e] (p.data.toList.drop k)).isSome)) (λiv=>p.size - (intOf iv).toNat)
 exact⟨0,bt _,rfl,qd (by rw[ee,q9 D])⟩;obtain⟨k,H,rfl,d⟩:=hrel
 by_cases A1:k<p.size
 .have dH:p.data.toList[k]?=G p[k]:=by rw[ag (by rwa[qy]),qF p k A1]
  by_cases hx:p[k]=e
  .have I0:(p[k].toNat:Int)=(e.toNat:Int):=by rw[hx]
   have B:((p[k].toNat:Int)==(e.toNat:Int))=ui:=by rw[I0,mu]
   by_cases hl:k+1=p.size
   .have i:Hid (R=uh):=qd (by rw[q9 d,qen dH (by rw[hx];rfl) (by rw[qy];omega)];rfl)
    have C:(((k:Int)+1)==(p.size:Int))=ui:=by rw[ew];omega
    have u:=qd dH;clear d dH hx
    go_wp2
    go_ret;exact⟨vd (by rw[q9 i]),rfl⟩
   have A:k+1<p.size:=uq;have t:p.data.toList[k+1]?=G p[k+1]:=by rw[ag (by rwa[qy]),qF p (k+1) A]
   have i:Hid (R=(xo [e] (p.data.toList.drop (k+2))).isSome):=qd (by rw[q9 d,qin dH (by rw[hx];rfl) t];cases xo [e] (p.data.toList.drop (k+2))<;>rfl);have C:(((k:Int)+1)==(p.size:Int))=uh:=by rw[aw];omega
   clear d dH t hx
   go_wp2
   go_round
   case rel=>exact⟨k+2,uq,by go_num,i⟩
   simp[intOf];omega
  have B:((p[k].toNat:Int)==(e.toNat:Int))=uh:=by
   rw[aw];intro h;exact hx (th.1 uq)
  have i:Hid (R=(xo [e] (p.data.toList.drop (k+1))).isSome):=qd (by rw[q9 d,qca dH (λh=>hx (by injection h with h;exact h.symm))];cases xo [e] (p.data.toList.drop (k+1))<;>rfl);clear d dH hx
  go_wp2
  go_round
  case rel=>exact⟨k+1,uq,by go_num,i⟩
  simp[intOf];omega
 have i:Hid (R=ui):=qd (by rw[q9 d,qim (by rw[qy];omega)];rfl);clear d
 go_wp2
 go_ret;exact⟨vd (by rw[q9 i]),rfl⟩
section
variable {w:Ao} {rb:Nat} {s:uj} {ns:List RN} {j:Nat} {st:St}
theorem vm5(h:RT w rb s ns j st)(u:s.size<=200)(A:st.tk.Q=4):
  uo 263 #[Ag (G (D rb 0 O))] w λe w'=>e=Ak (Ai #[I J 4,I J st.U,I J st.H,Y (BS st.tk.str),I J (tkN st)])/\TKept rb w w'/\RT w' rb s ns (j+1) (qh s st):=by
 obtain⟨nv,d,B,i,C⟩:=h;have hp:=i.W uq;rw[show tkZ st=(st.H:Int) by unfold tkZ;rw[ak uq],show rK st.tk.Q=4 by rw[A];rfl,show tkS st=st.tk.str by grind[tkS,rS,RT,BS]]at d;refine be (qnl d u i.H (kq s st)) ?_;rintro w'⟨q,t⟩;exact⟨rfl,TKept.of_kept t (q.c0.trans d.c0.symm),nv,q,B.P (d.c0.trans q.c0.symm) t,qH s st i.H,uq⟩
theorem vm4(h:RT w rb s ns j st)(A:s.size<=200)(B:¬st.tk.Q=4):
  uo 263 #[Ag (G (D rb 0 O))] w λe w'=>e=Ak (Ai #[I J (rK st.tk.Q),I J st.U,I J (tkZ st),Y (BS (tkS st)),I J (tkN st)])/\TKept rb w w'/\RE w' rb s 2 st.U st.op 200:=by
 obtain⟨nv,d,t,u,C⟩:=h;have hp:=u.U;refine be (qe d (by grind[rK,RT,BS,TKept,RE]) λ_ h=>gw h _ _) ?_;rintro w'⟨i,q⟩;exact⟨rfl,TKept.of_kept q (i.c0.trans d.c0.symm),nv,_,ns,i,uu,t.P (d.c0.trans i.c0.symm) q,uq⟩
end
theorem vrf(s:uj)(l:Ast)(st:St):(¬(qh s st).tk.Q=4/\vB s l st=.err 2 (qh s st).U)\/((qh s st).tk.Q=4/\((¬(qh s (qh s st)).tk.Q=13/\vB s l st=.ok (.un ⟨22,st.U,0,(qh s st).tk.str,[],[]⟩ l) (qh s (qh s st)))\/((qh s (qh s st)).tk.Q=13/\((((rK (qh s (qh s (qh s st))).tk.Q=4/\¬((BS (tkS (qh s (qh s (qh s st))))).size:Int)=1)\/¬rK (qh s (qh s (qh s st))).tk.Q=4)/\vB s l st=.err 2 (qh s (qh s (qh s st))).U)\/((qh s (qh s (qh s st))).tk.Q=4/\∃c,(qh s (qh s (qh s st))).tk.str=[c]/\(((xo [c] (qh s st).tk.str).isSome=uh/\vB s l st=.err 2 (qh s st).U)\/((xo [c] (qh s st).tk.str).isSome=ui/\vB s l st=.ok (.un ⟨22,st.U,0,(qh s st).tk.str,[c],[]⟩ l) (qh s (qh s (qh s (qh s st))))))))))):=by
 unfold vB qa2
 by_cases k4:(qh s st).tk.Q=4
 refine An ⟨k4, ?_⟩
 by_cases k13:(qh s (qh s st)).tk.Q=13
 refine An ⟨k13, ?_⟩
 by_cases k4b:(qh s (qh s (qh s st))).tk.Q=4
 simp only[bs k4b]
 by_cases kl:A (qh s (qh s (qh s st))).tk.str=1
 refine An ⟨k4b, ?_⟩
 obtain⟨c,d⟩:∃c,(qh s (qh s (qh s st))).tk.str=[c]:=by
  match h:(qh s (qh s (qh s st))).tk.str,kl with
  | [c],_=>exact⟨c,rfl⟩
 refine⟨c,d, ?_⟩;cases hcut:(xo [c] (qh s st).tk.str).isSome
 grind
 grind
 grind[qI,tkS,rS]
 grind[rK]
 grind
 grind
abbrev lkN(pl g:Nat)(a b:ByteArray)(neg:Bool):Array Ap:=#[Y ⟨#[76,73,75,69]⟩,I J pl,C (G ⟨g,0,O⟩) 1 1,Y a,Y b,C O 0 0,I J 0,Ah neg,I J 0]
abbrev lkT(k:Int)(pl:Nat)(z:Int)(a:ByteArray)(n:Int):Array Ap:=#[I J k,I J pl,I J z,Y a,I J n]
abbrev lkW(w:Ao)(b i:Nat)(a:ByteArray)(ua:Array Ap):Ao:=(B w ⟨b,i,O⟩ (Y a)).alloc (Al ua 171)
theorem BwN.put(h:BwN w W rb L g i0 cs)(d:rb<Z w.1)(q:rb<Z W.1)(t:g≠L)(u:Z w.1<=L)(i:Nat)(v:Ap)(o:Obj):BwN w ((B W (D L i O) v).alloc o) rb L g i0 (cs.setIfInBounds i v):=
 ⟨(h.v.set i v).alloc (by simpa using q) o,(h.g.setB t (by grind) i v).alloc (by simpa using q) o,(h.k.far d (p:=D L i O) u v).alloc d o⟩
theorem BwN.ins(h:BwN w W rb L g i0 cs):RowOf W rb 3 (C (G (D g 0 O)) 1 1) (qau [i0]):=An ⟨g,1,#[I J i0],(0,0),rfl,h.g.past,h.g.blk,h.g.no,λj u d=>by simpa [qau]using d⟩
theorem qnu(rb:Nat)(s:uj)(i:s.size<=200)(op m:Nat)(hm:201<=m)(w:Ao)(st:St)(ns new:List RN)(j:Nat)(l:Ast)(h:RT w rb s (ns++new) j st)(ho:st.op=op)(hk:st.tk.Q=12)(F9:Flat l (A ns) new)(i0:Nat)(U4:i0=A ns+A new - 1)(g:Nat)(hg:VN w rb g 3 #[I J i0])(neg:Bool)(pl0:Int):
  uo 241 #[Ag (G (D rb 0 O)),Ai #[Y ⟨#[]⟩,I J st.U,C (G (D g 0 O)) 1 1,Y ⟨#[]⟩,Y ⟨#[]⟩,C O 0 0,I J 0,Ah neg,I J 0]] w (REnds rb s w op m ns j st.U (vjd neg pl0 (vB s l st))):=by
 have A1:=h.lt;have n0:¬Z w.1=rb:=uq;have n1:¬rb=Z w.1:=uq;have aL:=hg.lt;have lN:=qd (BwN.mk (VN.new h 178 (lkN st.U g ⟨#[]⟩ ⟨#[]⟩ neg) rfl) (hg.alloc A1 _) ((TKept.refl rb w).alloc A1 _));have H0:=qd (h.alloc (Al (lkN st.U g ⟨#[]⟩ ⟨#[]⟩ neg) 178));have f1:=qH s st h.y.H;have q1:=h.y.W uq;have f2:=qH s _ f1.H;have f3:=qH s _ f2.H;have B9:=f1.U;have XR:A (qh s st).tk.str<=200:=bu (qcv s st) i;have V3:=qd F9;have eA:=qd U4;clear h hg F9 U4;obtain⟨n4,U⟩|⟨k4,⟨JP,U⟩|⟨k13,⟨⟨hK,KO⟩|nK,U⟩|⟨k4b,c,hc,⟨hcf,U⟩|⟨eJ,U⟩⟩⟩⟩:=vrf s l st
 all_goals
  rw[U];clear U
  try have q2:=f1.W (by rw[k4];decide)
  first
   | (
    have NC:=ew.2 k13
    have q3:=f2.W (by rw[k13];decide))
   | have NC:=aw.2 JP
   | skip
  try have q4:=f3.W (by rw[k4b];decide)
  go_enter func241,ntmps241
  go_wp2_with(first|(go_at_call 92;have _q:=B;refine be (jU B i uq uq) ?_;rintro Q⟨L0,R7⟩;have G7:=(q9 t).P L0;have eF:=(q9 HP3).P L0;have m4:=G7.v.lt;have m5:=eF.lt;obtain⟨e2,e3,e4,e5,e6⟩:=R7.ct;obtain⟨d0,d1,d2,d3,d4,d5,d6,d7,d8,dz⟩:=G7.v.nine;have pp1:Xc Q (Z w2.1) 1 (I J (qh s st).U):=eF.cell 1;have wI:=R7.lt;have m1:¬rb=Z Q.1:=uq;have m2:¬Z Q.1=rb:=uq;have m3:¬Z w.1=Z Q.1:=uq;(first|(have _q:=c;rw[show rK (qh s (qh s (qh s st))).tk.Q=4 by rw[k4b];rfl]at e2;rw[show tkZ (qh s (qh s (qh s st)))=((qh s (qh s (qh s st))).H:Int) by unfold tkZ;rw[ak uq]]at e4;rw[show BS (tkS (qh s (qh s (qh s st))))=⟨#[c]⟩ by unfold tkS rS;rw[ak uq,bs uq,hc];rfl]at e5;have cL:=(G7.v.rt uu uu R7 4 (Y ⟨#[c]⟩)).alloc (Al (lkT 4 (qh s (qh s (qh s st))).U (qh s (qh s (qh s st))).H ⟨#[c]⟩ (tkN (qh s (qh s (qh s st))))) 171);have T5:=(Below.refl (lkW Q (Z w.1) 4 ⟨#[c]⟩ (lkT 4 (qh s (qh s (qh s st))).U (qh s (qh s (qh s st))).H ⟨#[c]⟩ (tkN (qh s (qh s (qh s st)))))).1.size (lkW Q (Z w.1) 4 ⟨#[c]⟩ (lkT 4 (qh s (qh s (qh s st))).U (qh s (qh s (qh s st))).H ⟨#[c]⟩ (tkN (qh s (qh s (qh s st))))))).drew;have aE:=qd (cL.h T5);have L9:=qd ((show BwN w (lkW Q (Z w.1) 4 ⟨#[c]⟩ (lkT 4 (qh s (qh s (qh s st))).U (qh s (qh s (qh s st))).H ⟨#[c]⟩ (tkN (qh s (qh s (qh s st)))))) rb (Z w.1) g i0 (lkN st.U g (BS (qh s st).tk.str) ⟨#[c]⟩ neg) from G7.put A1 wI uq ux 4 _ _).P (TKept.x T5 cL.lt));clear cL T5)|(have FL4:=qd (λo=>pS (R7.alloc o) i 2 (qh s (qh s (qh s st))).U uu);have dD:=qd (λo=>G7.k.alloc A1 o)));clear L0 R7 G7 eF)|(go_at_call 92;refine be (jU H0 i uq uq) ?_;rintro w1⟨A5,C7⟩;have D9:=qd (lN.P A5);have I8:=qd C7;clear A5 C7)|(go_at_call 263;(first|(have _q:=n4;refine be (vm4 I8 i n4) ?_;rintro w2⟨B8,H⟩;have q:=(q9 D9).P B8;have KW:=q.v.lt;have ET:=H.lt;obtain⟨p0,p1,p2,p3,p4,p5,p6,p7,p8,pz⟩:=q.v.nine;have t:Hid (BwN w (lkW w2 (Z w.1) 3 (BS (tkS (qh s st))) (lkT (rK (qh s st).tk.Q) (qh s st).U (tkZ (qh s st)) (BS (tkS (qh s st))) (tkN (qh s st)))) rb (Z w.1) g i0 (lkN st.U g (BS (tkS (qh s st))) ⟨#[]⟩ neg)):=qd (q.put A1 ET uq ux 3 _ _);have B:=qd ((q.v.re uu uu H 3 (Y (BS (tkS (qh s st))))).alloc (Al (lkT (rK (qh s st).tk.Q) (qh s st).U (tkZ (qh s st)) (BS (tkS (qh s st))) (tkN (qh s st))) 171));obtain⟨c82,_⟩:=H.c8;have nr2:¬rb=Z w2.1:=uq;have WS:¬Z w2.1=rb:=uq)|(refine be (vm5 I8 i k4) ?_;rintro w2⟨B8,H⟩;have q:=(q9 D9).P B8;have KW:=q.v.lt;have ET:=H.lt;obtain⟨p0,p1,p2,p3,p4,p5,p6,p7,p8,pz⟩:=q.v.nine;have t:Hid (BwN w (lkW w2 (Z w.1) 3 (BS (qh s st).tk.str) (lkT 4 (qh s st).U (qh s st).H (BS (qh s st).tk.str) (tkN (qh s st)))) rb (Z w.1) g i0 (lkN st.U g (BS (qh s st).tk.str) ⟨#[]⟩ neg)):=qd (q.put A1 ET uq ux 3 _ _);have B:=qd ((q.v.rt uu uu H 3 (Y (BS (qh s st).tk.str))).alloc (Al (lkT 4 (qh s st).U (qh s st).H (BS (qh s st).tk.str) (tkN (qh s st))) 171));have HP3:Hid (VN (lkW w2 (Z w.1) 3 (BS (qh s st).tk.str) (lkT 4 (qh s st).U (qh s st).H (BS (qh s st).tk.str) (tkN (qh s st)))) rb (Z w2.1) 171 (lkT 4 (qh s st).U (qh s st).H (BS (qh s st).tk.str) (tkN (qh s st)))):=qd (VN.new (q.v.rt uu uu H 3 (Y (BS (qh s st).tk.str))) 171 (lkT 4 (qh s st).U (qh s st).H (BS (qh s st).tk.str) (tkN (qh s st))) ur);have c82:=H.c8;have nr2:¬rb=Z w2.1:=uq;have WS:¬Z w2.1=rb:=uq));clear B8 H q)|(go_at_call 129;(first|(have _q:=n4;refine be (vnz B uu) λw' hw'=>?_;subst w')|(refine be (qux B 13 (X:=⟨#[69,83,67,65,80,69]⟩) rfl uu uu rfl) λw' hw'=>?_;subst w';rw[NC])))|(go_at_call 94;refine be (FL4 _) ?_;rintro w6⟨M,P⟩;have HF6:=qd ((dD _).trans M);have WB:=qd P;clear M P)|(go_at_call 130;(first|(have _q:=uQ;refine be (qhj uQ i ⟨22,st.U,0,(qh s st).tk.str,[c],[]⟩ rfl [i0] neg rfl rfl rfl dE.ins (RowOf.no _ _ _)) ?_;rintro w9⟨d,u⟩;have T:=qd (dE.k.trans d))|(have _q:=JP;refine be (qhj B i ⟨22,st.U,0,(qh s st).tk.str,[],[]⟩ rfl [i0] neg rfl rfl rfl t.ins (RowOf.no _ _ _)) ?_;rintro w9⟨d,u⟩;have T:=qd (t.k.trans d))|(refine(qjy B uq [i0] [] neg t.ins (RowOf.no _ _ _)).mono ?_;rintro e w9⟨i9,rfl,d,u⟩;have T:=qd (t.k.trans d)));have tL:=qd u;clear d u))
  try
   go_region_with(go_at_call 264;refine be (qya (BS (qh s st).tk.str) (by rwa[qI]) c _) λw' hw'=>?_;subst w';rw[zW];first|rw[hcf]|rw[eJ])
   all_goals go_wp2_with(first|(go_at_call 94;refine be (pS aE i 2 (qh s st).U uu) ?_;rintro w6⟨M,P⟩;have HF6:=qd (L9.k.trans M);have WB:=qd P;clear M P)|(go_at_call 92;have _q:=aE;refine be (jU aE i uq uq) ?_;rintro w6⟨M,P⟩;have aN:=(q9 L9).P M;obtain⟨f0',f1',f2',f3',f4',f5',f6',f7',f8',_⟩:=aN.v.nine;have dE:=qd aN;have uQ:=qd P;clear M P aN)|(go_at_call 130;(first|(have _q:=uQ;refine be (qhj uQ i ⟨22,st.U,0,(qh s st).tk.str,[c],[]⟩ rfl [i0] neg rfl rfl rfl dE.ins (RowOf.no _ _ _)) ?_;rintro w9⟨d,u⟩;have T:=qd (dE.k.trans d))|(have _q:=JP;refine be (qhj B i ⟨22,st.U,0,(qh s st).tk.str,[],[]⟩ rfl [i0] neg rfl rfl rfl t.ins (RowOf.no _ _ _)) ?_;rintro w9⟨d,u⟩;have T:=qd (t.k.trans d))|(refine(qjy B uq [i0] [] neg t.ins (RowOf.no _ _ _)).mono ?_;rintro e w9⟨i9,rfl,d,u⟩;have T:=qd (t.k.trans d)));have tL:=qd u;clear d u))
  all_goals go_ret
  all_goals first
   | exact⟨q9 HF6,0,rfl,ho ▸ (q9 WB).more uq⟩
   | exact⟨q9 T,i9,rfl,ho ▸ (q9 tL).more uq⟩
   | (
    have HH:=q9 tL;rw[bw,q9 eA]at HH;refine⟨q9 T,_,js ur,HH.less uq,ho,uq, ?_⟩
    cases neg with
    | false=>exact Flat.un _ V3
    | true=>exact Flat.neg1 _ _ (An (Am rfl)) V3)
def RD(w:Ao)(rb:Nat)(s:ByteArray)(pl:Int)(op m lo:Nat):Prop:=
 ∃(ns:List RN) (nv:Ap) (st:St),TrC w rb nv s (rK st.tk.Q) st.U (tkZ st) (BS (tkS st)) (tkN st) op 0 0/\NodesAt w rb nv ns/\(st.tk.Q=11\/st.tk.Q=12)/\(st.U:Int)=pl/\A ns<=m/\lo<=st.U/\st.U<=s.size
def RX(w:Ao)(rb:Nat)(s:ByteArray)(en pl:Int)(op m lo:Nat):Prop:=RE w rb s en pl op m\/(en=2/\RD w rb s pl op m lo)
section
variable {w w':Ao} {rb:Nat} {s:uj} {en pl:Int} {op m lo:Nat}
theorem RX.lt(h:RX w rb s en pl op m lo):rb<Z w.1:=by
 obtain h|⟨_,ns,nv,st,h,_⟩:=h;exact h.lt;exact h.lt
theorem RX.more(h:RX w rb s en pl op m lo)(d:m<=m')(B:lo'<=lo):RX w rb s en pl op m' lo':=by
 obtain h|⟨e,ns,nv,st,A,u,t,q,D,C,i⟩:=h;exact Am (h.more d);exact An ⟨e,ns,nv,st,A,u,t,q,uq,uq,i⟩
theorem RX.alloc(h:RX w rb s en pl op m lo)(o:Obj):RX (w.alloc o) rb s en pl op m lo:=by
 obtain h|⟨e,ns,nv,st,d,q,i⟩:=h;exact Am (h.alloc o);exact An ⟨e,ns,nv,st,d.alloc o,q.h d.lt (uy.alloc ux o),i⟩
theorem RX.fresh(h:RX w rb s en pl op m lo)(o:Obj):¬qat (w.alloc o) rb (Z w.1):=by
 obtain h|⟨e,ns,nv,st,d,i,q⟩:=h;exact h.fresh o;exact i.fresh d.c0 d.lt o
theorem RX.c7(h:RX w rb s en pl op m lo):Xc w rb 7 (I J op)/\Xf w rb:=by
 obtain h|⟨e,ns,nv,st,d,_⟩:=h;exact h.c7;exact⟨d.c7,d.fz⟩
theorem RX.setOp(h:RX w rb s en pl op m lo)(n:Nat)(o:Int)(t:o=n):RX (B w (D rb 7 O) (I J o)) rb s en pl n m lo/\TKept rb w (B w (D rb 7 O) (I J o)):=by
 obtain h|⟨e,ns,nv,st,d,u,A⟩:=h
 grind[RE.setOp,RX]
 subst t;have q:=(Kept.refl rb w).setCell 7 (I J n);have i:=d.setOp n;exact⟨An ⟨e,ns,nv,st,i,u.P (d.c0.trans i.c0.symm) q,A⟩,TKept.of_kept q (i.c0.trans d.c0.symm)⟩
theorem vdj(h:RX w rb s en pl op m lo)(Y:m<=1000)(x:RN)(P:RowOf w rb 3 iv (qau x.ins))(Q:RowOf w rb 9 lv (qx x.i)):
  uo 130 #[Ag (G (D rb 0 O)),rnV x iv lv] w λe w'=>∃i:Nat,e=Ak (I J i)/\TKept rb w w'/\RX w' rb s en pl op (m+1) lo:=by
 obtain h|⟨e,ns,nv,st,q,t,M,H,Z,C,B⟩:=h
 grind[qjz,Calls.mono,RX]
 refine(qb9 q t x P Q uq).mono ?_;rintro e' w'⟨rfl,u,d,T,U⟩;exact⟨A ns,rfl,u,An ⟨e,_,d,st,T,U,M,H,ut,C,B⟩⟩
theorem qxk(h:RX w rb s en pl op m lo)(d:m<=1000)(N:uk)(a:Int)(i:Nat)(t:BS N=NB)(q:g=Z w.1):
  uo 130 #[Ag (G (D rb 0 O)),Ai #[Y NB,I J a,C (G (D g 0 O)) 1 1,Y ⟨#[]⟩,Y ⟨#[]⟩,C O 0 0,I J 0,Ah uh,I J 0]] (w.alloc (Al #[I J i] 3))
   λe w'=>∃i:Nat,e=Ak (I J i)/\TKept rb w w'/\RX w' rb s en pl op (m+1) lo:=by
 subst t q;refine(vdj (h.alloc (Al #[I J i] 3)) d ⟨N,a,[i],[],[],[],0,uh,0⟩ (iv:=C (G ⟨Z w.1,0,O⟩) 1 1) (lv:=C O 0 0) (RowOf.made h.lt h.fresh _ _ 1 rfl) (RowOf.no _ _ _)).mono ?_
 grind[kB,RX.lt]
theorem qsc(h:RX w rb s en pl op m lo)(q:m<=1000)(N:uk)(a:Int)(i k:Nat)(A:BS N=NB)(u:g=Z w.1):
  uo 130 #[Ag (G (D rb 0 O)),Ai #[Y NB,I J a,C (G (D g 0 O)) 2 2,Y ⟨#[]⟩,Y ⟨#[]⟩,C O 0 0,I J 0,Ah uh,I J 0]] (w.alloc (Al #[I J i,I J k] 3))
   λe w'=>∃i:Nat,e=Ak (I J i)/\TKept rb w w'/\RX w' rb s en pl op (m+1) lo:=by
 subst A u;refine(vdj (h.alloc (Al #[I J i,I J k] 3)) q ⟨N,a,[i,k],[],[],[],0,uh,0⟩ (iv:=C (G ⟨Z w.1,0,O⟩) 2 2) (lv:=C O 0 0) (RowOf.made h.lt h.fresh _ _ 2 rfl) (RowOf.no _ _ _)).mono ?_;rintro e w'⟨k,rfl,t,d⟩;exact⟨k,rfl,kB h.lt t,d⟩
theorem vky(h:RX w rb s en pl op m lo)(c:Int)(B:kwT c=T X.data)(H:5<=c)(P:c<=28)(t:rK c=kind)(V8:c≠11)(I2:c≠12):
  uo 262 #[Ag (G (D rb 0 O)),I J kind,Y X] w λe w'=>e=Ak (Aj #[])/\TKept rb w w'/\RE w' rb s en pl op m:=by
 obtain h|⟨e,ns,nv,st,d,C,Z,M,i,U,Q⟩:=h;exact qk7 h (by rw[<-t];unfold rK;rw[ak uq];split<;>decide);have u:=isK (st:=st) B H P kind t;rw[show(st.tk.Q==c)=uh from aw.2 uq]at u;subst e M;refine be (qk6 d kind X u) ?_;rintro w'⟨q,A⟩;exact⟨rfl,TKept.of_kept A (q.c0.trans d.c0.symm),nv,_,ns,q,uu,C.P (d.c0.trans q.c0.symm) A,i⟩
theorem RD.is(h:RD w rb s pl op m lo)(c:Int)(i:kwT c=T X.data)(t:5<=c)(u:c<=28)(d:rK c=kind)(C:c≠11)(H:c≠12):
  uo 129 #[Ag (G (D rb 0 O)),I J kind,Y X] w λe w'=>e=Ak (Ah uh)/\w'=w:=by
 obtain⟨ns,nv,st,q,A,B,_⟩:=h;have:=pk q kind X;rwa [isK i t u kind d,show(st.tk.Q==c)=uh from aw.2 uq]at this
theorem RD.c8(h:RD w rb s pl op m lo):Xc w rb 8 (I J 0):=by obtain⟨ns,nv,st,d,_⟩:=h;exact d.c8
theorem vv3(h:RX w rb s en pl op m lo)(u:n<lo)(t:n<=s.size):meT s w rb<s.size+2 - n:=by
 obtain h|⟨e,ns,nv,st,d,A,i,G,D,C,B⟩:=h;rw[vno h];omega;have i:=d.c3;have q:=d.c8;unfold meT plT;rw[q,i];simp;omega
end
def DEnds(rb:Nat)(s:ByteArray)(w:Ao)(op m:Nat)(ns:List RN)(j lo:Nat)(r:Res)(e:Ending)(w':Ao):Prop:=
 TKept rb w w'/\match r with
 | .ok t st=>∃new,e=Ak (I J ((A ns+A new - 1:Nat):Int))/\RT w' rb s (ns++new) j st/\st.op=op/\lo<=st.U/\Flat t (A ns) new
 | .err en pl=>∃i:Nat,e=Ak (I J i)/\RX w' rb s en pl op m lo
def DReads(K:Nat)(rb:Nat)(s:ByteArray)(op m:Nat)(f:St->Res):Prop:=
 ∀(w:Ao) (st:St) (ns:List RN) (j:Nat),RT w rb s ns j st->st.op=op->Calls prog K #[Ag (G (D rb 0 O))] w (DEnds rb s w op m ns j st.U (f st))
theorem DEnds.more(h:DEnds rb s w op m ns j lo r e w')(d:m<=m')(i:lo'<=lo):DEnds rb s w op m' ns j lo' r e w':=by
 obtain⟨q,h⟩:=h
 grind[RX.more,DEnds]
theorem DReads.more(h:DReads K rb s op m f)(q:m<=m'):DReads K rb s op m' f:=λw st ns j d i=>(h w st ns j d i).mono λ_ _ t=>t.more q ux
theorem REnds.d(h:REnds rb s w op m ns j lo r e w'):DEnds rb s w op m ns j lo r e w':=by
 obtain⟨d,h⟩:=h;refine⟨d, ?_⟩
 cases r with
 | ok t st=>exact h
 | err en pl=>obtain⟨i,u,q⟩:=h;exact⟨i,u,Am q⟩
theorem yk(k a z:Int)(S:uj)(n:Int)(w:Ao):
  lz 237 #[Ai #[I J k,I J a,I J z,Y S,I J n]] w (Ah (k==5&&(S.toList==[61]||S.toList==[60,62]||S.toList==[60]||S.toList==[60,61]||S.toList==[62]||S.toList==[62,61]))):=by
 have d:∀o,Xb w (w.alloc o):=λo=>uy.alloc ux o
 by_cases hk:k=5
 .subst hk
  go_enter func237,ntmps237
  go_wp2
  all_goals(go_ret;refine⟨vd ?_,d _⟩;simp_all)
 have h:(k==5)=uh:=aw.2 hk;go_enter func237,ntmps237
 go_wp2
 all_goals(go_ret;exact⟨by rw[h];rfl,d _⟩)
theorem kU(st:St):(rK st.tk.Q==5&&((BS (tkS st)).toList==[61]||(BS (tkS st)).toList==[60,62]||(BS (tkS st)).toList==[60]||(BS (tkS st)).toList==[60,61]||(BS (tkS st)).toList==[62]||(BS (tkS st)).toList==[62,61]))=decide (16<=st.tk.Q/\st.tk.Q<=21):=by
 have i (c:Int) (X:uk) (hX:kwT c=X) (h5:16<=c) (R8:c<=28):(rK st.tk.Q==5&&((BS (tkS st)).toList==X))=(st.tk.Q==c):=by
  have:=isK (st:=st) (c:=c) (X:=BS X) (by rwa[zW]) uq R8 5 (by grind[rK]);rwa [qP X]at this
 rw[ov,ov,ov,ov,ov,i 16 [61] rfl uu uu,i 17 [60,62] rfl uu uu,i 18 [60] rfl uu uu,i 19 [60,61] rfl uu uu,i 20 [62] rfl uu uu,i 21 [62,61] rfl uu uu]
 grind
def vxe(rb:Nat)(s:ByteArray)(w:Ao)(op m:Nat)(ns:List RN)(j lo:Nat)(R:Res)(f:St->Res)(ks:List Int)(v:Ap)(wr:Ao):Prop:=
 TKept rb w wr/\((∃(n:Nat) (l:Ast) (sl:St) (new:List RN),R=ju s f ks n l sl/\s.size<n+sl.U/\v=I J ((A ns+A new - 1:Nat):Int)/\RT wr rb s (ns++new) j sl/\sl.op=op/\lo<=sl.U/\Flat l (A ns) new) \/
  ∃(en pl:Int) (i:Nat),R=.err en pl/\v=I J i/\RX wr rb s en pl op m lo)
theorem vuw{uc:uj}(d:(uc=⟨#[65,78,68]⟩/\ks=[5])\/(uc=⟨#[79,82]⟩/\ks=[6]))(sl:St):∃t:Bool,(rK sl.tk.Q==6&&((BS (tkS sl)).toList==uc.toList))=t/\ks.contains sl.tk.Q=t/\(t=ui->5<=sl.tk.Q/\sl.tk.Q<=6/\BS (qJ (qgs sl.tk.Q))=uc):=by
 obtain⟨rfl,rfl⟩|⟨rfl,rfl⟩:=d;refine⟨_,isK (c:=5) rfl uu uu 6 rfl,by grind,λh=>?_⟩;rw[eq_of_beq h];exact⟨uu,uu,rfl⟩;refine⟨_,isK (c:=6) rfl uu uu 6 rfl,by grind,λh=>?_⟩;rw[eq_of_beq h];exact⟨uu,uu,rfl⟩
theorem qd7{uc:uj}(hC:(F=128/\K=188/\uc=⟨#[65,78,68]⟩/\ks=[5])\/(F=93/\K=128/\uc=⟨#[79,82]⟩/\ks=[6]))(rb:Nat)(s:uj)(hs:s.size<=200)(op m:Nat)(hm:200<=m)(dR:m<=900)(f:St->Res)(hf:DReads K rb s op m f):DReads F rb s op (m+1) (zj s f ks):=by
 intro w st ns j h ho;have HF:=qd hf;have HC:=qd (hf w st ns j h ho);have hB:(uc=⟨#[65,78,68]⟩/\ks=[5])\/(uc=⟨#[79,82]⟩/\ks=[6]):=hC.elim (λh=>Am h.2.2) (λh=>An h.2.2);have E:=qd (vuw hB)
 have E2:Hid (∀(W:Ao) (pl:Int) (lo:Nat),RD W rb s pl op (m+1) lo->uo 129 #[Ag (G (D rb 0 O)),I J 6,Y uc] W λe w'=>e=Ak (Ah uh)/\w'=W):=qd λW pl lo h=>by
  obtain⟨rfl,_⟩|⟨rfl,_⟩:=hB;exact h.is 5 rfl uu uu rfl uu uu;exact h.is 6 rfl uu uu rfl uu uu
 obtain⟨R,hR⟩:=ie (zj s f ks st);rw[hR];have HR:=qd hR;clear hf h hR hB;obtain⟨rfl,rfl,rfl,_⟩|⟨rfl,rfl,rfl,_⟩:=hC
 all_goals
  first|go_enter func128,ntmps128|go_enter func93,ntmps93
  go_wp2_with((first|go_at_call 188|go_at_call 128);refine HC.mono ?_;rintro e w1 d;have H1:Hid (∃v,e=Ak v/\vxe rb s w op (m+1) ns j st.U R f ks v w1):=qd (by
    obtain⟨A5,d⟩:=d;rw[<-q9 HR]
    cases D4:f st with
    | ok l0 st0=>rw[D4]at d;obtain⟨new,rfl,C7,V6,U8,F9⟩:=d;exact⟨_,rfl,A5,Am ⟨s.size+1,l0,st0,new,qg1 D4,uq,rfl,C7,V6,U8,F9⟩⟩
    | err en pl=>rw[D4]at d;obtain⟨i,rfl,C7⟩:=d;exact⟨_,rfl,A5,An ⟨en,pl,i,qcp D4,rfl,C7.more uq ux⟩⟩);clear d;obtain⟨v1,rfl,d⟩:=q9 H1;have U:=qd d;clear H1 d)
  go_loopw [3] (λv wr=>Hid (vxe rb s w op (m+1) ns j st.U R f ks v wr)) (λv wr=>meT s wr rb)
  exact U;obtain⟨T,hc⟩:=q9 hrel;have HK:=qd T;obtain⟨n,l,sl,new,u,hn,rfl,B,FC,J5,F9⟩|⟨en,pl,i,u,rfl,q⟩:=hc
  .have O4:=B.y
   have UO:=O4.U;have c8:=B.c8;obtain⟨c2,c3,c4,c5,c6⟩:=B.ct;obtain⟨mm,rfl⟩:∃mm,n=mm+1:=⟨n - 1,uq⟩;have RQ:=qd (que B);have Q:=qd B;have V3:=qd F9;clear B T F9 hrel U;obtain⟨t,hi,P,H⟩:=q9 E sl;cases t
   .have M:Hid (R=.ok l sl):=qd (by rw[u,pw P])
    clear P u H
    go_wp2_with(go_at_call 129;refine be (qk5 Q) λw' hw'=>?_;subst w';simp only[hi])
    go_ret;rw[q9 M];exact⟨q9 HK,new,rfl,q9 Q,FC,J5,q9 V3⟩
   replace H:=H rfl;have dG:=O4.W uq;have hN:=qd H.2.2;have M3:sl.tk.Q≠0/\sl.tk.Q≠1:=⟨uq,uq⟩;rcases D4:f (qh s sl) with⟨r,N0⟩|⟨en,pl⟩
   all_goals
    first
     | have M:=qd (u.trans (pu P (pN D4)))
     | have M:=qd (u.trans (qam P (gg D4)))
    have O5:=qd D4;clear P u D4 H
    go_wp2_with(first|(go_at_call 129;refine be (qk5 Q) λw' hw'=>?_;subst w';simp only[hi])|(go_at_call 92;refine be (jU Q hs M3.1 M3.2) ?_;rintro w2⟨B8,C8⟩;have Q9:=qd B8;have J4:=qd C8;clear B8 C8)|((first|go_at_call 188|go_at_call 128);refine(HF _ (qh s sl) (ns++new) (j+1) J4 FC).mono ?_;rintro e w3⟨F2,h3⟩;rw[q9 O5]at h3;(first|(have _q:=en;obtain⟨i3,rfl,F3⟩:=h3)|(obtain⟨vje,rfl,F3,CE,mO,hfl3⟩:=h3;have JD:=qd hfl3;clear hfl3));have X9:=qd F2;have T8:=qd F3;clear F2 F3)|(go_at_call 130;(first|(have _q:=en;refine(qsc T8 uq _ sl.U (A ns+A new - 1) i3 hN ur).mono ?_;rintro e w4⟨i4,rfl,L0,C⟩;have oP:=qd (vv3 C dG uq))|(refine be (qjx T8 hs ⟨qgs sl.tk.Q,sl.U,0,[],[],[]⟩ (A ns+A new - 1) (A ns+A new+A vje - 1) hN rfl rfl rfl ur) ?_;rintro w4⟨L0,C⟩;have GG:=C.y.U;have oP:=qd (que C)));have dD:=qd (((HK.trans Q9).trans X9).trans L0);have aH:=qd C;clear L0 C))
    go_roundw
    case rel=>
     first
      | exact qd ⟨q9 dD,An ⟨en,pl,i4,q9 M,rfl,aH.more ux uq⟩⟩
      | (
       refine qd ⟨q9 dD,Am ⟨mm,_,N0,new++vje++[jR ⟨qgs sl.tk.Q,sl.U,0,[],[],[]⟩ [A ns+A new - 1,A ns+A new+A vje - 1] uh],q9 M,uq,vnl ut, ?_,CE,uq,Flat.bin _ V3 (by have:=q9 JD;rwa [cd]at this)⟩⟩;have:=q9 aH
       simpa only[bw]using this)
    rw[q9 RQ];first|exact q9 oP|(rw[q9 oP];omega)
  obtain q|⟨GI,q⟩:=q
  .obtain⟨c8,mB⟩:=q.c8
   have Z:=qd q;clear q T hrel U
   go_wp2
   go_ret;rw[u];exact⟨q9 HK,i,rfl,Am Z⟩
  have c8:=q.c8;have Z:=qd q;clear q T hrel U
  go_wp2_with(go_at_call 129;refine be (E2 _ _ _ Z) λw' hw'=>?_;subst w')
  go_ret;rw[u];exact⟨q9 HK,i,rfl,An ⟨GI,q9 Z⟩⟩
theorem vim{fE:St->Res}(h:st.op<=12):(st.op=12/\vG s fE st=.err 3 st.U)\/(st.op<12/\((∃x st',fE (p9 s st)=.ok x st'/\((st'.tk.Q=27/\vG s fE st=.ok x { qh s st' with op:=st.op })\/(¬st'.tk.Q=27/\vG s fE st=.err 2 st'.U)))\/∃en pl,fE (p9 s st)=.err en pl/\vG s fE st=.err en pl)):=by
 by_cases I2:st.op=12
 .grind[qj2]
 have d:st.op<12:=uq;refine An ⟨d, ?_⟩;cases hf:fE (p9 s st)<;>grind[qri,qrh,qmp]
theorem qy1(rb:Nat)(s:uj)(B:s.size<=200)(op m:Nat)(hm:200<=m)(I4:op<=12)(fE:St->Res)(hE:op<12->DReads 93 rb s (op+1) m fE)(eE:xY 93 rb s)(w:Ao)(st:St)(ns:List RN)(j:Nat)(h:RT w rb s ns j st)(C:st.op=op)(hk:st.tk.Q=26):
  uo 293 #[Ag (G (D rb 0 O))] w (REnds rb s w op (m+1) ns j st.U (vG s fE st)):=by
 obtain⟨c2,c3,c4,c5,c6⟩:=h.ct;have c8:=h.c8;have A1:=h.lt;have n0:¬Z w.1=rb:=uq;have n1:¬rb=Z w.1:=uq;rw[show rK st.tk.Q=5 by rw[hk];rfl]at c2;rw[show tkZ st=(st.H:Int) by unfold tkZ;rw[ak uq]]at c4;rw[show BS (tkS st)=⟨#[40]⟩ by unfold tkS rS;rw[ak uq,ak uq,hk];rfl]at c5;rw[show tkN st=st.tk.M by unfold tkN;rw[ak uq]]at c6;have FR:=qd (h.fresh (Al #[I J 5,I J st.U,I J st.H,Y ⟨#[40]⟩,I J st.tk.M] 171));have H':=qd (h.alloc (Al #[I J 5,I J st.U,I J st.H,Y ⟨#[40]⟩,I J st.tk.M] 171));have J5:=h.y.W uq;have HE:=qd hE;have EE:=qd eE;clear h hE eE;obtain⟨q,u⟩|⟨sE,⟨x,st',t,⟨H,u⟩|⟨Q,u⟩⟩|⟨en,pl,t,u⟩⟩:=vim (s:=s) (fE:=fE) (C.symm ▸ I4:st.op<=12)
 all_goals
  rw[u];clear u
  try(have HF:=qd t;clear t)
  go_enter func293,ntmps293
  go_wp2_with(first|(go_at_call 216;(first|(have _q:=q;refine(qfv H' B q).mono ?_)|refine(qfw H' B uq uq sE).mono ?_);rintro e w1⟨rfl,A5,C7⟩;obtain⟨hc,t,_,I6,hL⟩:=A5.mine ur FR;have p3:Xc w1 (Z w.1) 3 (Y ⟨#[40]⟩):=(hc 3).trans ur;have L8:=qd (kB A1 A5);have I8:=qd C7;clear A5 C7 hc t I6)|(go_at_call 93;(first|(have _q:=q;refine(EE _ _ _ _ _ I8).mono ?_;rintro e w2⟨i,rfl,B8,A⟩)|(refine(HE uq _ (p9 s st) ns (j+1) I8 (by show st.op+1=op+1;omega)).mono ?_;rintro e w2⟨B8,T⟩;rw[q9 HF]at T;(first|(have _q:=en;obtain⟨i,rfl,A⟩:=T)|(obtain⟨new,rfl,A,U3,M7,F9⟩:=T;(try have fY:=A.y.W (by rw[H];decide));have V3:=qd F9;clear F9))));have Q9:=qd (L8.trans B8);have M:=qd A;clear B8 A)|(go_at_call 262;(first|(have _q:=q;refine(qk7 M uu).mono ?_)|(have _q:=en;refine(vky M 27 rfl uu uu rfl uu uu).mono ?_)|(have _q:=H;refine(qk8 M B 27 rfl uu uu rfl H).mono ?_)|refine(qak M B 27 rfl uu uu rfl Q).mono ?_);rintro e w3⟨rfl,F2,P⟩;have sD:=P.lt;obtain⟨d7,dz⟩:=P.c7;have U:=qd (Q9.trans F2);have d:=qd P;clear F2 P;(first|rw[show(qh s st').op=op+1 from U3]at d7|rw[U3]at d7|skip)))
  go_ret
  first
   | (
    have _q:=q;refine⟨U.trans (d.setOp 12 12 rfl).2,i,rfl, ?_⟩;rw[<-C,q]
    exact(d.setOp 12 12 rfl).1.more uq)
   | (
    have _q:=H;refine⟨U.trans (d.setOp op _ uq).2,new,rfl, ?_,C, ?_,q9 V3⟩
    .rw[C]
     exact(d.setOp op _ uq).1.less uq
    .have:(p9 s st).U<=st'.U:=M7
     have e:(p9 s st).U=(qh s st).U:=rfl;show st.U<=(qh s st').U
     omega)
   | exact⟨U.trans (d.setOp op _ uq).2,_,rfl,(d.setOp op _ uq).1.more uq⟩
theorem qkc(rb:Nat)(s:uj)(d:s.size<=200)(op m:Nat)(q:200<=m)(A:m<=900)(B:op<=12)(fS fE:St->Res)(t:op<12->RReads 293 rb s (op+1) m fS)(C:op<12->DReads 93 rb s (op+1) m fE)(u:xY 293 rb s)(D:xY 93 rb s):
  RReads 293 rb s op (m+1) (jc s fS fE):=by
 intro w st ns j h i;unfold jc
 split
 .rename_i hk;exact qp4 (Am ⟨rfl,rfl,rfl,rfl⟩) rb s d op m q A B fS t u w st ns j h i hk
 split
 .rename_i hk;exact qp4 (An ⟨rfl,rfl,rfl,rfl⟩) rb s d op m q A B fS t u w st ns j h i hk
 split
 .grind[qy1]
 split
 .rename_i hk;exact xT (Am ⟨rfl,rfl,rfl,rfl,rfl,rfl⟩) rb s d op (m+1) w ns j h i hk
 split
 .rename_i hk;exact xT (An (Am ⟨rfl,rfl,rfl,rfl,rfl,rfl⟩)) rb s d op (m+1) w ns j h i hk
 split
 .rename_i hk;exact xT (An (An (Am ⟨rfl,rfl,rfl,rfl,rfl,rfl⟩))) rb s d op (m+1) w ns j h i hk
 split
 .rename_i hk;exact xT (An (An (An (Am ⟨rfl,rfl,rfl,rfl,rfl,rfl⟩)))) rb s d op (m+1) w ns j h i hk
 split
 .rename_i hk;exact xT (An (An (An (An (⟨rfl,rfl,rfl,rfl,rfl,rfl⟩))))) rb s d op (m+1) w ns j h i hk
 all_goals grind[qy2]
theorem vds(rb:Nat)(s:uj)(M:s.size<=200)(op m:Nat)(hm:200<=m)(dR:m<=900)(I4:op<=12)(fS:St->Res)(hS:op<12->DReads 188 rb s (op+1) m fS)(eS:xY 188 rb s)(w:Ao)(st:St)(ns:List RN)(j:Nat)(h:RT w rb s ns j st)(C:st.op=op)(hk:st.tk.Q=7):
  uo 188 #[Ag (G (D rb 0 O))] w (DEnds rb s w op (m+1) ns j st.U (vP s fS 5 st)):=by
 obtain⟨_,c3,_⟩:=h.ct;have c8:=h.c8;have A1:=h.lt;have JY:(st.tk.Q==7)=ui:=by rw[hk];rfl
 have J5:=h.y.W uq;have H:=qd h;have HS:=qd hS;have ES:=qd eS;clear h hS eS;obtain⟨q,I⟩|⟨sE,⟨x,st',P,I⟩|⟨en,pl,P,I⟩⟩:=vf1 (s:=s) (fS:=fS) (o:=5) (C.symm ▸ I4:st.op<=12)
 all_goals
  rw[I];clear I
  try(have HF:=qd P;clear P)
  go_enter func188,ntmps188
  go_wp2_with(first|(go_at_call 129;refine be (qux H 7 (X:=⟨#[78,79,84]⟩) rfl uu uu rfl) λw' hw'=>?_;subst w';rw[JY])|(go_at_call 216;(first|(have _q:=q;refine(qfv H M q).mono ?_)|refine(qfw H M uq uq sE).mono ?_);rintro e w1⟨rfl,A5,C7⟩;have L8:=qd A5;have I8:=qd C7;clear A5 C7)|(go_at_call 188;(first|(have _q:=q;refine(ES _ _ _ _ _ I8).mono ?_;rintro e w2⟨i,rfl,Y,u⟩)|(refine(HS uq _ (p9 s st) ns (j+1) I8 (by show st.op+1=op+1;omega)).mono ?_;rintro e w2⟨Y,Q⟩;rw[q9 HF]at Q;(first|(have _q:=en;obtain⟨i,rfl,u⟩:=Q)|(obtain⟨new,rfl,u,U3,M7,F9⟩:=Q;have V3:=qd F9;clear F9))));have L5:=u.lt;obtain⟨d7,dz⟩:=u.c7;(try rw[U3]at d7);have U:=qd (L8.trans Y);have d:=qd u;clear Y u)|(go_at_call 130;(first|(have _q:=q;refine(qhk ((d.setOp 12 12 rfl).1) uq [78,79,84] st.U i rfl ur).mono ?_;rintro e Z⟨i3,rfl,t,J⟩;have B:=qd ((d.setOp 12 12 rfl).2.trans t))|(have _q:=en;refine(qxk ((d.setOp op _ uq).1) uq [78,79,84] st.U i rfl ur).mono ?_;rintro e Z⟨i3,rfl,t,J⟩;have B:=qd ((d.setOp op _ uq).2.trans t))|(refine be (vdk ((d.setOp op _ uq).1) M ⟨5,st.U,0,[],[],[]⟩ (A ns+A new - 1) rfl rfl rfl rfl ur) ?_;rintro Z⟨t,J⟩;have B:=qd ((d.setOp op _ uq).2.trans t)));have T:=qd J;clear t J))
  go_ret
  first
   | (
    have _q:=q;refine⟨U.trans B,_,rfl, ?_⟩;rw[<-C,q]
    exact Am (T.more uq))
   | (
    have _q:=en
    exact⟨U.trans B,_,rfl,T.more ux (by have e:(p9 s st).U=(qh s st).U:=rfl;omega)⟩)
   | (
    refine⟨U.trans B,_,js ur, ?_,C, ?_,Flat.un _ V3⟩
    .have:=q9 T
     rw[bw]at this;rw[C];exact this
    .have:(p9 s st).U<=st'.U:=M7
     have e:(p9 s st).U=(qh s st).U:=rfl;show st.U<=st'.U
     omega)
theorem qk4(rb:Nat)(s:uj)(I:s.size<=200)(op m:Nat)(J:200<=m)(M:m<=900)(P:op<=12)(u q:St->Res)(C:op<12->DReads 188 rb s (op+1) m u)(D:xY 188 rb s)(B:DReads 215 rb s op (m+1) q):
  DReads 188 rb s op (m+1) (jM s u q):=by
 intro w st ns j h A;unfold jM
 split
 rename_i i;exact vds rb s I op m J M P u C D w st ns j h A i;rename_i i;have O:(st.tk.Q==7)=uh:=aw.2 i;have Q:=qd (B w st ns j h A);have H:=qd h;clear h B C D;go_enter func188,ntmps188
 go_wp2_with(first|(go_at_call 129;refine be (qux H 7 (X:=⟨#[78,79,84]⟩) rfl uu uu rfl) λw' hw'=>?_;subst w';rw[O])|(go_at_call 215;refine Q.mono ?_;rintro e w2 d;have G:Hid (∃v,e=Ak v):=qd (by cases hf:q st with|ok t st'=>rw[hf]at d;obtain⟨_,_,rfl,_⟩:=d;exact⟨_,rfl⟩|err en pl=>rw[hf]at d;obtain⟨_,_,rfl,_⟩:=d;exact⟨_,rfl⟩);have T:=qd d;clear d;obtain⟨v,rfl⟩:=q9 G;clear G))
 go_ret;exact q9 T
theorem vuj{α:Type}(f:α->List Ap)(d:∀a,A (f a)=9):∀(l:List α) (i:Nat) (a:α),l[i]?=G a->∀k,k<9->(l.flatMap f)[i * 9+k]?=(f a)[k]?:=by
 intro l
 induction l<;>grind
theorem NodesAt.opAt(h:NodesAt w rb nv ns){i:Nat}{n:RN}(B:ns[i]?=G n):∃g cap,nv=C (G (D g 0 O)) (A ns) cap/\w.cell? ⟨g,i * 9,O⟩=G (Y (BS n.op)):=by
 obtain⟨d,M,q,J⟩:=h;have Q:=(aj.1 B).1;have t:=q;obtain⟨P,H|⟨g,cap,cur,rfl,_⟩⟩:=q;omega;refine⟨g,cap,rfl, ?_⟩;rw[t.cellAt (i * 9) uq];obtain⟨r,I⟩:∃r,d[i]?=G r:=⟨d[i],ag uq⟩;have u:(ns.zip d)[i]?=G (n,r):=by grind
 have:=vuj (λx:RN×(Ap×Ap)=>pt x.1 x.2.1 x.2.2) (λa=>rfl) (ns.zip d) i (n,r) u 0 uq;rw[Nat.add_zero]at this;rw[this];rfl
theorem xB(o:Int):(qJ o==[110,97,109,101])=(o==0):=by
 by_cases h:o=0
 subst h;rfl;rw[show(o==0)=uh from aw.2 h,aw]
 by_cases hr:1<=o/\o<=22
 .have hd:∀i:Fin 22,qJ (1+(i.val:Int))≠[110,97,109,101]:=by decide +kernel
  have:=hd ⟨(o - 1).toNat,uq⟩;rwa [show(1:Int)+(((o - 1).toNat:Nat):Int)=o by omega]at this
 unfold qJ;rw[ak h]
 iterate 22 rw[ak uq]
 decide
theorem qmu(l:List RN)(n:RN):(l++[n])[A (l++[n]) - 1]?=G n:=ur
theorem Flat.last{t:Ast}{off:Nat}{l:List RN}(h:Flat t off l):∃n,l[A l - 1]?=G n/\(n.op==[110,97,109,101])=(opA t==0):=by
 cases h with
 | leaf p=>exact⟨_,rfl,xB _⟩
 | un p h=>exact⟨_,qmu _ _,xB _⟩
 | bin p h1 h2=>exact⟨_,qmu _ _,xB _⟩
 | tri p h1 h2 h3=>exact⟨_,qmu _ _,xB _⟩
 | neg1 pl q hq h=>exact⟨_,qmu _ _,(xB _).trans (by obtain e|e|e:=hq<;>rw[e]<;>rfl)⟩
 | neg3 pl q hq h1 h2 h3=>exact⟨_,qmu _ _,(xB _).trans (by rw[hq];rfl)⟩
theorem RT.opAt{ns new:List RN}(h:RT w rb s (ns++new) j st)(d:Flat l (A ns) new)(H:A ns+A new - 1=i0):
  ∃g cap LN N,Xc w rb 0 (C (G (D g 0 O)) LN cap)/\i0<LN/\Xc w g (i0 * 9) (Y N)/\(N.toList==[110,97,109,101])=(opA l==0):=by
 obtain⟨nv,t,u,_⟩:=h;obtain⟨n,B,I⟩:=d.last;have hp:=d.pos
 have i:(ns++new)[i0]?=G n:=by
  grind
 obtain⟨g,cap,rfl,q⟩:=u.opAt i;exact⟨g,cap,_,_,t.c0,ut,q,by rwa[qP]⟩
theorem REnds.from{w2:Ao}(h:REnds rb s w2 op m ns j lo r e w')(i:TKept rb w w2)(d:lo'<=lo):REnds rb s w op m ns j lo' r e w':=by
 have h:=h.more (ae m) d;exact⟨i.trans h.1,h.2⟩
theorem REnds.ret(h:REnds rb s w op m ns j lo r e w'):∃v,e=Ak v:=by
 cases r<;>grind[REnds]
theorem qx6(pl:Int)(r:Res):vjd uh pl r=r:=by cases r<;>rfl
structure T1(rb:Nat)(s:ByteArray)(op m:Nat)(f:St->Res)(w:Ao)(st:St)(ns:List RN)(j:Nat)(l:Ast)(A9:St):Prop where
 hs:s.size<=200
 m1:200<=m
 m2:m<=900
 f1:RReads 236 rb s op m f
 es:xY 236 rb s
 rt:RT w rb s ns j st
 op:st.op=op
 res:f st=.ok l A9
theorem veh(rb:Nat)(s:uj)(op m:Nat)(f:St->Res)(w:Ao)(st:St)(ns:List RN)(j:Nat)(l:Ast)(d:St)(ua:T1 rb s op m f w st ns j l d)(hk:16<=d.tk.Q/\d.tk.Q<=21):
  uo 215 #[Ag (G (D rb 0 O))] w (DEnds rb s w op (m+1) ns j st.U (jX s f d l)):=by
 obtain⟨hs,hm,dR,hf,eS,h,ho,D4⟩:=ua;obtain⟨k2,_⟩:=h.ct;have A1:=h.lt;have HC:=qd (hf w st ns j h ho);have HF:=qd hf;have ES:=qd eS;have O5:=qd D4;obtain⟨b0,G9⟩:∃b:Bool,(opA l==0)=b:=⟨_,rfl⟩;have lN:=qd G9;have dU:decide (16<=d.tk.Q/\d.tk.Q<=21)=ui:=de hk;have hnm:BS (qJ (qgs d.tk.Q))=BS (tkS d):=by rw[qne (An (An ⟨hk.1,uq⟩)),vft uq]
 have HNM:=qd hnm;clear hnm;clear h hf eS D4 G9
 cases hres2:f (qh s d) with
 | ok r N0=>
  rw[pN hres2];have tK:=qd hres2;clear hres2;rcases(show(rK st.tk.Q==2)=ui\/(rK st.tk.Q==2)=uh by cases (rK st.tk.Q==2)<;>simp) with q2|q2
  all_goals
   go_enter func215,ntmps215
   go_wp2_with(first|(go_at_call 236;refine(HF _ (qh s d) (ns++new) (j+1) T8 V6).mono ?_;rintro e w4⟨M,h4⟩;rw[q9 tK]at h4;obtain⟨lO,u,R7,CD,eF,sO⟩:=h4;obtain⟨i2,fP⟩:∃k:Nat,A (ns++new)+A lO - 1=k:=⟨_,rfl⟩;rw[fP]at u;subst u;have WK:=qd fP;have JE:=qd sO;clear fP sO;have B:=(q9 mZ).P M;have x1:Xc w4 (Z i.1) 1 (I J d.U):=B.cell 1;have x3:Xc w4 (Z i.1) 3 (Y (BS (tkS d))):=B.cell 3;have dD:=qd (X9.trans M);have aH:=qd R7;clear M R7 B)|(go_at_call 236;refine HC.mono ?_;rintro e i⟨A5,h1⟩;rw[q9 O5]at h1;obtain⟨new,u,q,V6,U8,Q⟩:=h1;obtain⟨i0,t⟩:∃k:Nat,A ns+A new - 1=k:=⟨_,rfl⟩;rw[t]at u;subst u;obtain⟨gN,capN,LN,N,cN0,lF,cN,GZ⟩:=q.opAt Q t;rw[q9 lN]at GZ;have c8:=q.c8;obtain⟨t2,t3,t4,t5,t6⟩:=q.ct;have lV:=q.lt;have nL:¬rb=Z i.1:=uq;have nL':¬Z i.1=rb:=uq;have uJ:gN<Z i.1:=nt i _ cN;have eA:=qd t;have P:=qd q;have L8:=qd A5;have V3:=qd Q;clear A5 q Q t)|(go_at_call 237;refine be (yk _ _ _ _ _ _) λw2 A3=>?_;rw[kU d,dU];have cA:=VN.new P 171 #[I J (rK d.tk.Q),I J d.U,I J (tkZ d),Y (BS (tkS d)),I J (tkN d)] rfl;have C:=(q9 P).alloc (Al #[I J (rK d.tk.Q),I J d.U,I J (tkZ d),Y (BS (tkS d)),I J (tkN d)] 171);have H:=TKept.x A3 C.lt;have mL:=cA.P H;have U:=C.h A3;have B8:=(L8.alloc A1 (Al #[I J (rK d.tk.Q),I J d.U,I J (tkZ d),Y (BS (tkS d)),I J (tkN d)] 171)).trans H;have L5:=U.lt;have tG:=qd mL;have J4:=qd U;have Q9:=qd B8;clear A3 cA C H mL U B8)|(go_at_call 92;refine be (jU J4 hs uq uq) ?_;rintro w3⟨T,F3⟩;have dG:=(q9 P).y.W uq;have mZ:=qd (tG.P T);have X9:=qd (Q9.trans T);have T8:=qd F3;clear T F3)|(go_at_call 130;refine be (qjx aH hs ⟨qgs d.tk.Q,d.U,0,[],[],[]⟩ i0 i2 HNM rfl rfl rfl ur) ?_;rintro w5⟨bT,cL⟩;have bP:=qd (dD.trans bT);have aE:=qd cL;clear bT cL))
   go_ret;refine⟨q9 bP,new++lO++[jR ⟨qgs d.tk.Q,d.U,0,[],[],[]⟩ [A ns+A new - 1,A ns+A new+A lO - 1] uh],js ut, ?_,CD,uq,Flat.bin _ V3 (by have:=q9 JE;rwa [cd]at this)⟩;have:=q9 aE;rw[<-q9 eA,<-q9 WK,cd]at this;simpa only[bw]using this
 | err en pl=>
  rw[gg hres2];have tK:=qd hres2;clear hres2;rcases(show(rK st.tk.Q==2)=ui\/(rK st.tk.Q==2)=uh by cases (rK st.tk.Q==2)<;>simp) with q2|q2
  all_goals
   go_enter func215,ntmps215
   go_wp2_with(first|(go_at_call 236;refine(HF _ (qh s d) (ns++new) (j+1) T8 V6).mono ?_;rintro e w4⟨M,h4⟩;rw[q9 tK]at h4;obtain⟨i2,rfl,R7⟩:=h4;have B:=(q9 mZ).P M;have x1:Xc w4 (Z i.1) 1 (I J d.U):=B.cell 1;have x3:Xc w4 (Z i.1) 3 (Y (BS (tkS d))):=B.cell 3;have dD:=qd (X9.trans M);have aH:=qd R7;clear M R7 B)|(go_at_call 236;refine HC.mono ?_;rintro e i⟨A5,h1⟩;rw[q9 O5]at h1;obtain⟨new,u,q,V6,U8,Q⟩:=h1;obtain⟨i0,t⟩:∃k:Nat,A ns+A new - 1=k:=⟨_,rfl⟩;rw[t]at u;subst u;obtain⟨gN,capN,LN,N,cN0,lF,cN,GZ⟩:=q.opAt Q t;rw[q9 lN]at GZ;have c8:=q.c8;obtain⟨t2,t3,t4,t5,t6⟩:=q.ct;have lV:=q.lt;have nL:¬rb=Z i.1:=uq;have nL':¬Z i.1=rb:=uq;have uJ:gN<Z i.1:=nt i _ cN;have eA:=qd t;have P:=qd q;have L8:=qd A5;have V3:=qd Q;clear A5 q Q t)|(go_at_call 237;refine be (yk _ _ _ _ _ _) λw2 A3=>?_;rw[kU d,dU];have cA:=VN.new P 171 #[I J (rK d.tk.Q),I J d.U,I J (tkZ d),Y (BS (tkS d)),I J (tkN d)] rfl;have C:=(q9 P).alloc (Al #[I J (rK d.tk.Q),I J d.U,I J (tkZ d),Y (BS (tkS d)),I J (tkN d)] 171);have H:=TKept.x A3 C.lt;have mL:=cA.P H;have U:=C.h A3;have B8:=(L8.alloc A1 (Al #[I J (rK d.tk.Q),I J d.U,I J (tkZ d),Y (BS (tkS d)),I J (tkN d)] 171)).trans H;have L5:=U.lt;have tG:=qd mL;have J4:=qd U;have Q9:=qd B8;clear A3 cA C H mL U B8)|(go_at_call 92;refine be (jU J4 hs uq uq) ?_;rintro w3⟨T,F3⟩;have dG:=(q9 P).y.W uq;have mZ:=qd (tG.P T);have X9:=qd (Q9.trans T);have T8:=qd F3;clear T F3)|(go_at_call 130;refine(qft aH uq (tkS d) d.U i0 i2 rfl ur).mono ?_;rintro e w5⟨i5,rfl,bT,cL⟩;have bP:=qd (dD.trans bT);have aE:=qd cL;clear bT cL))
   go_ret;exact⟨q9 bP,i5,rfl,Am aE⟩
theorem RT.rd(h:RT w rb s ns j st)(A:st.tk.Q=11\/st.tk.Q=12)(q:st.op=op)(i:s.size<=200)(t:200<=m)(u:lo<=st.U):RD w rb s st.U op m lo:=by
 obtain⟨nv,C,D,d,B⟩:=h;have:=d.U
 grind[RD]
theorem qh5{b d:Bool}(h:qc5 st l=b)(i:(opA l==0)=d):((rK st.tk.Q==2)=uh/\b=uh)\/((rK st.tk.Q==2)=ui/\d=uh/\b=uh)\/((rK st.tk.Q==2)=ui/\d=ui/\b=ui):=by
 grind[qc5,rK]
structure W2(st:St)(b14 b7:Bool):Prop where
 i14:(rK st.tk.Q==6&&((BS (tkS st)).toList==(⟨#[73,83]⟩:ByteArray).toList))=b14
 i7:(rK st.tk.Q==6&&((BS (tkS st)).toList==(⟨#[78,79,84]⟩:ByteArray).toList))=b7
structure W3(st:St)(b10 b11 b12:Bool):Prop where
 i10:(rK st.tk.Q==6&&((BS (tkS st)).toList==(⟨#[66,69,84,87,69,69,78]⟩:ByteArray).toList))=b10
 i11:(rK st.tk.Q==6&&((BS (tkS st)).toList==(⟨#[73,78]⟩:ByteArray).toList))=b11
 i12:(rK st.tk.Q==6&&((BS (tkS st)).toList==(⟨#[76,73,75,69]⟩:ByteArray).toList))=b12
theorem W2.lit{d i:Bool}(t:(st.tk.Q==14)=d)(q:(st.tk.Q==7)=i):W2 st d i:=⟨(isK (c:=14) rfl uu uu 6 rfl).trans t,(isK (c:=7) rfl uu uu 6 rfl).trans q⟩
theorem W3.lit{q i d:Bool}(u:(st.tk.Q==10)=q)(t:(st.tk.Q==11)=i)(A:(st.tk.Q==12)=d):W3 st q i d:=⟨(isK (c:=10) rfl uu uu 6 rfl).trans u,(isK (c:=11) rfl uu uu 6 rfl).trans t,(isK (c:=12) rfl uu uu 6 rfl).trans A⟩
theorem yV(rb:Nat)(s:uj)(op m:Nat)(f:St->Res)(w:Ao)(st:St)(ns:List RN)(j:Nat)(l:Ast)(d:St)(ua:T1 rb s op m f w st ns j l d){b:Bool}(hb:qc5 st l=b)(dU:decide (16<=d.tk.Q/\d.tk.Q<=21)=uh)
  (hC:(W2 d ui uh/\W3 d uh uh uh/\d.tk.Q=14/\b=ui/\r=jy s l d)\/(W2 d uh uh/\W3 d uh uh uh/\True/\True/\r=.ok l d)\/(W2 d ui uh/\W3 d uh uh uh/\True/\b=uh/\r=.ok l d)\/(W2 d uh uh/\W3 d ui uh uh/\d.tk.Q=10/\True/\r=qY s f l d)\/(W2 d uh uh/\W3 d uh ui uh/\d.tk.Q=11/\b=ui/\r=y7 s l d)\/(W2 d uh uh/\W3 d uh uh ui/\d.tk.Q=12/\b=ui/\r=vB s l d)\/(W2 d uh uh/\W3 d uh ui uh/\d.tk.Q=11/\b=uh/\r=.err 2 d.U)\/(W2 d uh uh/\W3 d uh uh ui/\d.tk.Q=12/\b=uh/\r=.err 2 d.U)) :
  uo 215 #[Ag (G (D rb 0 O))] w (DEnds rb s w op (m+1) ns j st.U r):=by
 obtain⟨hs,hm,dR,hf,eS,h,ho,D4⟩:=ua;obtain⟨k2,_⟩:=h.ct;have Q:=h.lt;have HC:=qd (hf w st ns j h ho);have HF:=qd hf;have ES:=qd eS;have O5:=qd D4;obtain⟨b0,G9⟩:∃b:Bool,(opA l==0)=b:=⟨_,rfl⟩;have lN:=qd G9;have hq:=qh5 hb G9;clear h hf eS D4 hb G9;obtain⟨⟨M,B⟩,⟨C,P,H⟩,t,u,rfl⟩|⟨⟨M,B⟩,⟨C,P,H⟩,t,u,rfl⟩|⟨⟨M,B⟩,⟨C,P,H⟩,t,u,rfl⟩|⟨⟨M,B⟩,⟨C,P,H⟩,t,u,rfl⟩|⟨⟨M,B⟩,⟨C,P,H⟩,t,u,rfl⟩|⟨⟨M,B⟩,⟨C,P,H⟩,t,u,rfl⟩|⟨⟨M,B⟩,⟨C,P,H⟩,t,u,rfl⟩|⟨⟨M,B⟩,⟨C,P,H⟩,t,u,rfl⟩:=hC
 all_goals
  obtain⟨q2,cI⟩|⟨q2,rfl,cI⟩|⟨q2,rfl,cI⟩:=hq
 all_goals
  first|exact absurd (u.symm.trans cI) uu|skip
 all_goals
  clear u cI;have AR:=qd t;clear t;go_enter func215,ntmps215
  go_wp2_with(first|(go_at_call 236;refine HC.mono ?_;rintro e w1⟨A5,h1⟩;rw[q9 O5]at h1;obtain⟨new,he,U,T,U8,F9⟩:=h1;obtain⟨i0,U4⟩:∃k:Nat,A ns+A new - 1=k:=⟨_,rfl⟩;rw[U4]at he;subst he;obtain⟨gN,capN,LN,N,cN0,lF,cN,GZ⟩:=U.opAt F9 U4;rw[q9 lN]at GZ;have c8:=U.c8;obtain⟨t2,t3,t4,t5,t6⟩:=U.ct;have lV:=U.lt;have nL:¬rb=Z w1.1:=uq;have nL':¬Z w1.1=rb:=uq;have uJ:gN<Z w1.1:=nt w1 _ cN;have eA:=qd U4;have I8:=qd U;have L8:=qd A5;have V3:=qd F9;clear A5 U F9 U4)|(go_at_call 237;refine be (yk _ _ _ _ _ _) λw2 A3=>?_;rw[kU d,dU];have cA:=VN.new I8 171 #[I J (rK d.tk.Q),I J d.U,I J (tkZ d),Y (BS (tkS d)),I J (tkN d)] rfl;have eV:=(q9 I8).alloc (Al #[I J (rK d.tk.Q),I J d.U,I J (tkZ d),Y (BS (tkS d)),I J (tkN d)] 171);have aJ:=TKept.x A3 eV.lt;have mL:=cA.P aJ;have C8:=eV.h A3;have B8:=(L8.alloc Q (Al #[I J (rK d.tk.Q),I J d.U,I J (tkZ d),Y (BS (tkS d)),I J (tkN d)] 171)).trans aJ;have L5:=C8.lt;obtain⟨_,u3,_⟩:=C8.ct;have nM1:¬rb=Z w2.1:=uq;have nM2:¬rb=Z w2.1+1:=uq;have nM3:¬Z w2.1=rb:=uq;have nM4:¬Z w2.1+1=rb:=uq;have q:=qd C8;have Q9:=qd B8;clear A3 cA eV aJ mL C8 B8)|(go_at_call 129;(first|refine(qk5 q).mono ?_|refine(qk5 ((q.alloc _).alloc _)).mono ?_);rintro e w'⟨rfl,hw'⟩;subst w';simp only[M,B,C,P,H])|(go_at_call 239;refine(qd4 rb s hs op m hm dR f HF ES _ d ns new j l ((q.alloc _).alloc _) T AR V3 i0 eA.symm (Z w2.1) ((VN.new q 3 #[I J i0] rfl).alloc ut _) uh 0).mono ?_;rintro e w5 i;obtain⟨v5,rfl⟩:=i.ret;have H5:=qd i;clear i)|(go_at_call 240;refine(qhl rb s hs op (m+1) uq _ d ns new j l ((q.alloc _).alloc _) T AR V3 i0 eA.symm (Z w2.1) ((VN.new q 3 #[I J i0] rfl).alloc ut _) uh 0).mono ?_;rintro e w5 i;obtain⟨v5,rfl⟩:=i.ret;have H5:=qd i;clear i)|(go_at_call 241;refine(qnu rb s hs op (m+1) uq _ d ns new j l ((q.alloc _).alloc _) T AR V3 i0 eA.symm (Z w2.1) ((VN.new q 3 #[I J i0] rfl).alloc ut _) uh 0).mono ?_;rintro e w5 i;obtain⟨v5,rfl⟩:=i.ret;have H5:=qd i;clear i)|(go_at_call 238;refine(ve8 rb s hs op (m+1) uq _ d ns new j l q T AR V3 i0 eA.symm).mono ?_;rintro e w5 i;obtain⟨v5,rfl⟩:=i.ret;have H5:=qd i;clear i))
  go_ret
  first
   | (
    have:=q9 H5
    first
     | (rw[qx6]at this;exact(this.from ((Q9.alloc Q _).alloc Q _) U8).d)
     | exact(this.from Q9 U8).d)
   | exact⟨((Q9.alloc Q _).alloc Q _),new,js (by rw[q9 eA]),(q.alloc _).alloc _,T,U8,q9 V3⟩
   | exact⟨((Q9.alloc Q _).alloc Q _),i0,rfl,An ⟨rfl,((q.alloc _).alloc _).rd (md (q9 AR)) T hs uq U8⟩⟩
end Go.Proofs.YtmepkbgodcffoaaGreatDoor
