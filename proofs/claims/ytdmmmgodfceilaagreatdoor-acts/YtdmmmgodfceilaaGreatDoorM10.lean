/- The document's answer -/
import Derived.Test.YtdmmmgodfceilaaGreatDoorM27
import Derived.Test.YtdmmmgodfceilaaGreatDoorM14
set_option maxHeartbeats 64000000
set_option maxRecDepth 100000
namespace Go.Proofs.YtdmmmgodfceilaaGreatDoor
open Go.RowKit Go.Proofs.Tryz
open Go renaming Value->Ap,World->Ao
open Go.Ending renaming returned->Ak
open Go.IntKind renaming i64->J
open Go.Obj renaming cells->Al
open Go.Value renaming int->I,pointer->Ag,slice->C,string->Y,tuple->Aj
open Option renaming none->O,some->G
variable{x y:Ast}{neg:Bool}{a b c o pl:Int}{cs ds:List Int}{l ns:List RN}{LN cap g i k off rb:Nat}{p:Pay}{n:RN}{r:Res}{w wr:Ao}
theorem REnds.slack{s:tq}{w':Ao}{op m:Nat}{j j' d:Nat}{e:Ending}(h:REnds rb s w op m ns j d r e w')(q:j'<=j):REnds rb s w op m ns j' d r e w':=by
 obtain⟨f,h⟩:=h;refine⟨f, ?_⟩
 cases r with
 | ok t st=>obtain⟨new,z,v,u⟩:=h;exact⟨new,z,v.less q,u⟩
 | err en pl=>exact h
theorem yV(rb:Nat)(s:tq)(op m:Nat)(f:St->Res)(w:Ao)(st:St)(ns:List RN)(j:Nat)(l:Ast)(d:St)(T:T1 rb s op m f w st ns j l d){b:Bool}(hb:qau st l=b)(M:d.tk.A=7)
  (hC:(W3 (qh s d) true false false/\(qh s d).tk.A=10/\True/\r=vee true d.M (qX s f l (qh s d)))\/(W3 (qh s d) false true false/\(qh s d).tk.A=11/\b=true/\r=vee true d.M (xE s l (qh s d)))\/(W3 (qh s d) false false true/\(qh s d).tk.A=12/\b=true/\r=vee true d.M (vp s l (qh s d)))\/(W3 (qh s d) false false false/\True/\True/\r=.err 2 (qh s d).M)\/(W3 (qh s d) false true false/\True/\b=false/\r=.err 2 (qh s d).M)\/(W3 (qh s d) false false true/\True/\b=false/\r=.err 2 (qh s d).M)) :
  ua 217 #[.pointer (G ⟨rb,0,O⟩)] w (DEnds rb s w op (m+1) ns j st.M r):=by
 obtain⟨F,hm,bZ,Z,eS,h,ho,A9⟩:=T;obtain⟨k2,_⟩:=h.ct;have W:=h.lt;have HC:=qd (Z w st ns j h ho);have HF:=qd Z;have ES:=qd eS;have L4:=qd A9;obtain⟨b0,G0⟩:∃b:Bool,(opA l==0)=b:=⟨_,rfl⟩;have fJ:=qd G0;have hq:=qeq hb G0;have cB:decide (16<=d.tk.A/\d.tk.A<=21)=false:=db ub;obtain⟨cA,sB⟩:W2 d false true:=.lit (by rw[M];rfl) (by rw[M];rfl);have Y:=qd M;clear h Z eS A9 hb G0 M;rcases hC with⟨⟨z,A,B⟩,u,v,rfl⟩|⟨⟨z,A,B⟩,u,v,rfl⟩|⟨⟨z,A,B⟩,u,v,rfl⟩|⟨⟨z,A,B⟩,u,v,rfl⟩|⟨⟨z,A,B⟩,u,v,rfl⟩|⟨⟨z,A,B⟩,u,v,rfl⟩
 all_goals
  rcases hq with⟨q2,L⟩|⟨q2,rfl,L⟩|⟨q2,rfl,L⟩
 all_goals
  first|exact absurd (v.symm.trans L) ue|skip
 all_goals
  clear v L;have EW:=qd u;clear u;go_enter func217,ntmps217
  go_wp2_with(first|(go_at_call 238;refine HC.mono ?_;rintro e K⟨A4,h1⟩;rw[q9 L4]at h1;obtain⟨new,he,C,P,T8,E6⟩:=h1;obtain⟨t,Q⟩:∃k:Nat,ns.length+new.length - 1=k:=⟨_,rfl⟩;rw[Q]at he;subst he;obtain⟨gN,capN,LN,N,WV,eV,cN,DP⟩:=C.opAt E6 Q;rw[q9 fJ]at DP;have c8:=C.c8;obtain⟨t2,t3,t4,t5,t6⟩:=C.ct;have dW:=C.lt;have nL:¬rb=K.1.size:=ub;have nL':¬K.1.size=rb:=ub;have sC:gN<K.1.size:=mq K _ cN;have cH:=qd Q;have G3:=qd C;have J8:=qd A4;have P4:=qd E6;clear A4 C E6 Q)|(go_at_call 239;refine be (xO _ _ _ _ _ _) λw2 A3=>?_;rw[kj d,cB];have D:=VN.new G3 171 #[.int .i64 (rK d.tk.A),.int .i64 d.M,.int .i64 (tkZ d),.string (BS (tkS d)),.int .i64 (tkN d)] rfl;have eM:=(q9 G3).alloc (Al #[.int .i64 (rK d.tk.A),.int .i64 d.M,.int .i64 (tkZ d),.string (BS (tkS d)),.int .i64 (tkN d)] 171);have V9:=TKept.of_below A3 eM.lt;have iG:=D.T V9;have U:=eM.below A3;have A8:=(J8.alloc W (Al #[.int .i64 (rK d.tk.A),.int .i64 d.M,.int .i64 (tkZ d),.string (BS (tkS d)),.int .i64 (tkN d)] 171)).trans V9;have J9:=U.lt;obtain⟨_,u3,_⟩:=U.ct;have nM1:¬rb=w2.1.size:=ub;have nM2:¬rb=w2.1.size+1:=ub;have nM3:¬w2.1.size=rb:=ub;have ZS:¬w2.1.size+1=rb:=ub;have J:=qd U;have N7:=qd A8;clear A3 D eM V9 iG U A8)|(go_at_call 131;(first|refine(qhi I).mono ?_|refine(qhi J).mono ?_|refine(qhi ((J.alloc _).alloc _)).mono ?_);rintro e w'⟨rfl,hw'⟩;subst w';simp only[cA,sB,z,A,B])|(go_at_call 94;have JE:RT ((w2.alloc (Al #[.int .i64 t] 3)).alloc (Al #[.string ⟨#[]⟩,.int .i64 0,.slice (G ⟨w2.1.size,0,O⟩) 1 1,.string ⟨#[]⟩,.string ⟨#[]⟩,.slice O 0 0,.int .i64 0,.bool true,.int .i64 0] 178)) rb s (ns++new) j d:=(J.alloc _).alloc _;refine be (jG JE F (uu (q9 Y)) (uu (q9 Y))) ?_;rintro w3⟨S,R⟩;have tL:VN ((w2.alloc (Al #[.int .i64 t] 3)).alloc (Al #[.string ⟨#[]⟩,.int .i64 0,.slice (G ⟨w2.1.size,0,O⟩) 1 1,.string ⟨#[]⟩,.string ⟨#[]⟩,.slice O 0 0,.int .i64 0,.bool true,.int .i64 0] 178)) rb w2.1.size 3 #[.int .i64 t]:=(VN.new J 3 #[.int .i64 t] rfl).alloc ud _;have D:VN ((w2.alloc (Al #[.int .i64 t] 3)).alloc (Al #[.string ⟨#[]⟩,.int .i64 0,.slice (G ⟨w2.1.size,0,O⟩) 1 1,.string ⟨#[]⟩,.string ⟨#[]⟩,.slice O 0 0,.int .i64 0,.bool true,.int .i64 0] 178)) rb (w2.1.size+1) 178 #[.string ⟨#[]⟩,.int .i64 0,.slice (G ⟨w2.1.size,0,O⟩) 1 1,.string ⟨#[]⟩,.string ⟨#[]⟩,.slice O 0 0,.int .i64 0,.bool true,.int .i64 0]:=VN.new (J.alloc _) _ _ uc;have E:=D.T S;have H:=tL.T S;have hL3:=E.lt;have oB:=R.lt;obtain⟨_,u33,_⟩:=R.ct;have y0:∀i,w3.cell? ⟨w2.1.size+1,i,O⟩=(#[.string ⟨#[]⟩,.int .i64 0,.slice (G ⟨w2.1.size,0,O⟩) 1 1,.string ⟨#[]⟩,.string ⟨#[]⟩,.slice O 0 0,.int .i64 0,.bool true,.int .i64 0]:Array Ap)[i]?:=(λi=>E.cell i);have yz:Xf w3 (w2.1.size+1):=E.frz;have bR:=(q9 G3).U.W (uu (q9 Y));have I:=qd (E.rt ue ue R 1 (.int .i64 (qh s d).M));have YE:=qd (H.setB ub ZS 1 (.int .i64 (qh s d).M));have bP:=qd (((((N7.alloc W _).alloc W _).trans S).far W (p:=⟨w2.1.size+1,1,O⟩) (by show w.1.size<=w2.1.size+1;have:=(q9 N7).size;omega) (.int .i64 (qh s d).M)));clear S R D tL E H JE)|(go_at_call 241;refine(qbl rb s F op m hm bZ f HF ES _ (qh s d) ns new (j+1) l I P EW P4 t cH.symm w2.1.size YE true d.M).mono ?_;rintro e X q;obtain⟨v5,rfl⟩:=q.ret;have H5:=qd q;clear q)|(go_at_call 242;refine(qf3 rb s F op (m+1) ub _ (qh s d) ns new (j+1) l I P EW P4 t cH.symm w2.1.size YE true d.M).mono ?_;rintro e X q;obtain⟨v5,rfl⟩:=q.ret;have H5:=qd q;clear q)|(go_at_call 243;refine(qjz rb s F op (m+1) ub _ (qh s d) ns new (j+1) l I P EW P4 t cH.symm w2.1.size YE true d.M).mono ?_;rintro e X q;obtain⟨v5,rfl⟩:=q.ret;have H5:=qd q;clear q)|(go_at_call 96;refine be (gT I F 2 (qh s d).M ue) ?_;rintro X⟨aE,cK⟩;have r9:=qd (bP.trans aE);have aJ:=qd cK;clear aE cK))
  go_ret
  first
   | exact((H5.slack ub).from bP ub).d
   | exact⟨q9 r9,t,rfl,.inl (P ▸ (q9 aJ).more ub)⟩
theorem qzs(rb:Nat)(s:tq)(op m:Nat)(f:St->Res)(q:RReads 238 rb s op m f)(w:Ao)(st:St)(ns:List RN)(j:Nat)(h:RT w rb s ns j st)(A:st.op=op){u:Int}(v:f st=.err u pl):
  ua 217 #[Ag (G ⟨rb,0,O⟩)] w (DEnds rb s w op (m+1) ns j st.M (.err u pl)):=by
 obtain⟨H,_⟩:=h.ct;have D:=qd (q w st ns j h A);have B:=qd v;clear h q v;go_enter func217,ntmps217
 go_wp2_with(go_at_call 238;refine D.mono ?_;rintro e F⟨z,t⟩;rw[q9 B]at t;obtain⟨i,rfl,d⟩:=t;obtain⟨c8,I⟩:=d.c8;have C:=qd z;have E:=qd d;clear z d)
 go_ret;exact⟨q9 C,i,rfl,.inl (E.more ub)⟩
theorem qpe(rb:Nat)(s:tq)(A:s.size<=200)(op m:Nat)(B:200<=m)(D:m<=900)(f:St->Res)(z:RReads 238 rb s op m f)(C:xC 238 rb s):DReads 217 rb s op (m+1) (zh s f (xE s) (vp s)):=by
 intro w st ns j h v
 cases A9:f st with
 | err en pl=>
  rw[show zh s f (xE s) (vp s) st=.err en pl by unfold zh;rw[A9]];exact qzs rb s op m f z w st ns j h v A9
 | ok l A6=>
  rw[show zh s f (xE s) (vp s) st=zg s f (xE s) (vp s) (qau st l) l A6 by unfold zh;rw[A9]];have T:T1 rb s op m f w st ns j l A6:=⟨A,B,D,z,C,h,v,A9⟩;unfold zg
  split
  .rename_i d;exact qzr rb s op m f w st ns j l A6 T ub
  split
  .rename_i d
   split
   rename_i e;exact yw rb s op m f w st ns j l A6 T e (db ub) (.inl ⟨.lit ug ug,.lit ug ug ug,d,rfl,rfl⟩);rename_i e;exact yw rb s op m f w st ns j l A6 T (mr.2 e) (db ub) (.inr (.inr (.inl ⟨.lit ug ug,.lit ug ug ug,trivial,rfl,rfl⟩)))
  split
  .rename_i aD
   obtain⟨r,u⟩:=it (vr s f (xE s) (vp s) (qau st l) l (qh s A6));rw[u];suffices hS:ua 217 #[.pointer (G ⟨rb,0,O⟩)] w (DEnds rb s w op (m+1) ns j st.M (vee true A6.M r)) by cases r<;>exact hS
   rw[<-u];unfold vr
   split
   .rename_i h2;have:=h2.1;exact yV rb s op m f w st ns j l A6 T h2.2 aD (.inr (.inl ⟨.lit ug ug ug,h2.1,rfl,rfl⟩))
   rename_i q
   split
   .rename_i h2;have:=h2.1;exact yV rb s op m f w st ns j l A6 T h2.2 aD (.inr (.inr (.inl ⟨.lit ug ug ug,h2.1,rfl,rfl⟩)))
   rename_i t
   by_cases k10:(qh s A6).tk.A=10
   exact yV rb s op m f w st ns j l A6 T rfl aD (.inl ⟨.lit ug ug ug,k10,trivial,rfl⟩);rw[show qX s f l (qh s A6)=.err 2 (qh s A6).M by unfold qX;rw[ak k10]];show Calls _ _ _ _ (DEnds rb s w op (m+1) ns j st.M (.err 2 (qh s A6).M))
   by_cases k11:(qh s A6).tk.A=11
   exact yV rb s op m f w st ns j l A6 T (by simpa [k11]using q) aD (.inr (.inr (.inr (.inr (.inl ⟨.lit ug ug ug,trivial,rfl,rfl⟩)))))
   by_cases k12:(qh s A6).tk.A=12
   exact yV rb s op m f w st ns j l A6 T (by simpa [k12]using t) aD (.inr (.inr (.inr (.inr (.inr (⟨.lit ug ug ug,trivial,rfl,rfl⟩))))));exact yV rb s op m f w st ns j l A6 T rfl aD (.inr (.inr (.inr (.inl ⟨.lit ug ug ug,trivial,trivial,rfl⟩))))
  split
  .rename_i d
   unfold vr
   split
   .rename_i h2;have:=h2.1;exact yw rb s op m f w st ns j l A6 T h2.2 (db ub) (.inr (.inr (.inr (.inr (.inl ⟨.lit ug ug,.lit ug ug ug,h2.1,rfl,rfl⟩)))))
   rename_i q
   split
   .rename_i h2;have:=h2.1;exact yw rb s op m f w st ns j l A6 T h2.2 (db ub) (.inr (.inr (.inr (.inr (.inr (.inl ⟨.lit ug ug,.lit ug ug ug,h2.1,rfl,rfl⟩))))))
   rename_i t
   by_cases k10:A6.tk.A=10
   exact yw rb s op m f w st ns j l A6 T rfl (db ub) (.inr (.inr (.inr (.inl ⟨.lit ug ug,.lit ug ug ug,k10,trivial,rfl⟩))));rw[show qX s f l A6=.err 2 A6.M by unfold qX;rw[ak k10]];rcases d with d|d|d;omega;exact yw rb s op m f w st ns j l A6 T (by simpa [d]using q) (db ub) (.inr (.inr (.inr (.inr (.inr (.inr (.inl ⟨.lit ug ug,.lit ug ug ug,d,rfl,rfl⟩)))))));exact yw rb s op m f w st ns j l A6 T (by simpa [d]using t) (db ub) (.inr (.inr (.inr (.inr (.inr (.inr (.inr (⟨.lit ug ug,.lit ug ug ug,d,rfl,rfl⟩))))))))
  exact yw rb s op m f w st ns j l A6 T rfl (db ub) (.inr (.inl ⟨.lit ug ug,.lit ug ug ug,trivial,trivial,rfl⟩))
structure RR3(rb:Nat)(s:ByteArray)(op m:Nat)(L:L3):Prop where
 S:RReads 295 rb s op m L.S
 D:DReads 190 rb s op m L.D
 E:DReads 95 rb s op m L.E
theorem vrf(rb:Nat)(s:tq):xC 238 rb s/\xC 190 rb s/\xC 95 rb s:=
 have e:=vgr rb s (qjm rb s (qe2 rb s));have d:=qmv rb s (vav rb s e)
 ⟨e,d,qmx rb s (qvo rb s d)⟩
theorem vi7(rb:Nat)(s:tq)(d:s.size<=200)(op m:Nat)(j:op<=12)(q:200<=m)(E:m<=800)(L:L3)(h:op<12->RR3 rb s (op+1) m L):RR3 rb s op (m+8) (up3 s L):=by
 obtain⟨B,D,C⟩:=vrf rb s;have e:=qhp rb s d op m q ub j L.S L.E (λk=>(h k).S) (λk=>(h k).E) (qe2 rb s) C;have v:=qfa (.inr ⟨rfl,rfl,rfl,rfl,rfl⟩) rb s d op (m+1) ub ub _ e;have t:=qfa (.inl ⟨rfl,rfl,rfl,rfl,rfl⟩) rb s d op (m+2) ub ub _ v;have u:=qpe rb s d op (m+3) ub ub _ t B;have f:=qhf rb s d op (m+3) ub ub j L.D _ (λk=>(h k).D.more ub) D u;have A:=qbo (.inl ⟨rfl,rfl,rfl,rfl⟩) rb s d op (m+4) ub ub _ f;have z:=qbo (.inr ⟨rfl,rfl,rfl,rfl⟩) rb s d op (m+5) ub ub _ A;exact⟨e.more ub,f.more ub,z.more ub⟩
theorem qqq(rb:Nat)(s:tq)(e:s.size<=200):∀d op,op+d=12->RR3 rb s op (200+8 * (d+1)) (lvl s d):=by
 intro d
 induction d with
 | zero=>intro op h;exact vi7 rb s e op 200 ub ub ub _ (λk=>ub)
 | succ d ih=>intro op h;exact vi7 rb s e op (200+8 * (d+1)) ub ub ub _ (λ_=>ih (op+1) ub)
def wnt(o:Int):Int:=if 14<=o/\o<=19 then 2 else if 10<=o/\o<=13\/o=20 then 2 else if 5<=o/\o<=7 then 1 else -1
def hsc(o:Int):Int:=if o=0 then 0 else if o=1 then 2 else if o=2 then 3 else if 14<=o/\o<=19 then 2 else 1
def cc(c:Int):Int:=if c=1 then 2 else if c=2 then 3 else if c=3 then 1 else c
theorem qpj(o:Int)(f:0<=o)(j:o<=23)(w:Ao):
  ua 133 #[Y (BS (qH o))] w λe w'=>e=Ak (Aj #[I J (wnt o),I J (hsc o)])/\w'=w:=by
 have d:o=0\/o=1\/o=2\/o=3\/o=4\/o=5\/o=6\/o=7\/o=8\/o=9\/o=10\/o=11\/o=12\/o=13\/o=14\/o=15\/o=16\/o=17\/o=18\/o=19\/o=20\/o=21\/o=22\/o=23:=ub;rcases d with rfl|rfl|rfl|rfl|rfl|rfl|rfl|rfl|rfl|rfl|rfl|rfl|rfl|rfl|rfl|rfl|rfl|rfl|rfl|rfl|rfl|rfl|rfl|rfl
 all_goals
  simp only[BS,qH,Int.reduceEq,if_true,if_false];go_enter func133,ntmps133
  go_wp2
  exact bj (by simp[go_sem];decide) rfl ⟨rfl,rfl⟩
def qns(l:List UInt8):Int:=(((List.range 24).find? λi=>qH (Int.ofNat i)==l).getD 23:Nat)
theorem qa2(d:0<=o)(e:o<=23):qns (qH o)=o:=by
 have:∀i:Fin 24,qns (qH (i.val:Int))=(i.val:Int):=by decide +kernel
 have:=this ⟨o.toNat,ub⟩;rwa [show((o.toNat:Nat):Int)=o by omega]at this
def ji(cs:List Int)(k:Nat):Int:=cs.getD k 0
def jm(want c:Int):Bool:=decide (0<=want)&&c != 0&&c != want
def qif(cs:List Int)(n:RN):Bool:=
 (n.ins.any λk=>jm (wnt (qns n.op)) (ji cs k))||((qns n.op==8||qns n.op==9)&&(ji cs (n.ins.getD 0 0) != ji cs (n.ins.getD 1 0)&&ji cs (n.ins.getD 0 0) != 0&&ji cs (n.ins.getD 1 0) != 0))
def yN:List Int->List RN->Sum Int (List Int)
 | cs,[]=>.inr cs
 | cs,n::t=>if qif cs n=true then .inl n.at' else yN (cs++[hsc (qns n.op)]) t
theorem yx(cs:List Int)(l k:List RN):yN cs (l++k)=match yN cs l with
  | .inl q=>.inl q
  | .inr cs'=>yN cs' k:=by
 induction l generalizing cs with
 | nil=>rfl
 | cons n t ih=>
  rw[dk,yN,yN]
  split
  rfl;exact ih _
def CEnd(cs:List Int)(l:List RN):CRes->Prop
 | .ok c=>∃ds,yN cs l=.inr (cs++ds)/\ds.length=l.length/\ds.getD (l.length - 1) 0=cc c
 | .err q=>yN cs l=.inl q
theorem pu(t:Ast):∀c,qy t=.ok c->0<=c/\c<=3:=by
 intro c h;rw[yI]at h;generalize (qM t).map qy=rs at h;generalize (jc t).M=pl at h
 have hd:∀f e,0<=e/\e<=3->zN f pl e rs=.ok c->0<=c/\c<=3:=by
  intro f e j d;unfold zN at d
  split at d
  injection d with d;omega;cases d
 unfold qR at h
 split at h
 .injection h with h;omega
 split at h
 .injection h with h;omega
 split at h
 .injection h with h;omega
 split at h
 .exact hd _ _ ue h
 split at h
 .exact hd _ _ ue h
 split at h
 .exact hd _ _ ue h
 split at h
 split at h
 rename_i a b;unfold zM at h
 split at h
 cases h;cases h
 split at h
 cases h;injection h with h;omega;injection h with h;omega;injection h with h;omega
theorem vj3(ds:List Int)(f:yN cs l=.inr (cs++ds))(e:ds.length=l.length)(d:ds.getD (l.length - 1) 0=cc c):CEnd cs l (.ok c):=⟨ds,f,e,d⟩
theorem yW(h:yN cs l=.inr (cs++ds))(n:RN):yN cs (l++[n])=if qif (cs++ds) n=true then .inl n.at' else .inr (cs++(ds++[hsc (qns n.op)])):=by
 rw[yx,h];show yN (cs++ds) [n]=_;rw[yN]
 split
 rfl;rw[yN,bu]
theorem qrx{es:List Int}(h:cs.length<=k)(d:k<cs.length+ds.length):ji (cs++ds++es) k=ds.getD (k - cs.length) 0:=by
 unfold ji;rw[bi,bi,bu,da h,cg ub]
section
variable {p:Pay} {cs:List Int}
theorem qyb{x:Int}{ins:List Nat}(h:p.op=x)(d:0<=x)(e:x<=23):qns (jC p ins neg).op=x:=by
 show qns (qH p.op)=x;rw[h];exact qa2 d e
theorem vcu(off:Nat)(h:0<=p.op/\p.op<=4)(_:cs.length=off):CEnd cs [jC p [] false] (qy (.leaf p)):=by
 have f:p.op=0\/p.op=1\/p.op=2\/p.op=3\/p.op=4:=ub
 have key:∀x c,p.op=x->0<=x->x<=4->qR x p.M []=.ok c->hsc x=cc c->CEnd cs [jC p [] false] (qy (.leaf p)):=by
  intro x c d e s m j;rw[show qy (.leaf p)=.ok c by show qR p.op p.M []=_;rw[d];exact m];refine vj3 [hsc x] ?_ rfl (by simpa using j);rw[yN,qyb d e ub,ak,yN];unfold qif;rw[qyb d e ub]
  have q:(x==8||x==9)=false:=by
   rw[ii];exact⟨bh.2 ub,bh.2 ub⟩
  rw[q];show ¬((([]:List Nat).any _||_)=true);simp
 rcases f with h|h|h|h|h;exact key 0 0 h ue ue rfl rfl;exact key 1 1 h ue ue rfl rfl;exact key 2 2 h ue ue rfl rfl;exact key 3 3 h ue ue rfl rfl;exact key 4 3 h ue ue rfl rfl
end
theorem c4(h:0<=c/\c<=3):c=0\/c=1\/c=2\/c=3:=ub
theorem vsd(d:o=5\/o=14\/o=15\/o=21\/o=22\/o=23)(pl:Int)(e:0<=c/\c<=3):∃c',hsc o=cc c'/\qR o pl [.ok c]=if jm (wnt o) (cc c)=true then .err pl else .ok c':=by
 rcases d with rfl|rfl|rfl|rfl|rfl|rfl<;>rcases c4 e with rfl|rfl|rfl|rfl<;>first
  | exact⟨3,ue,rfl⟩
  | exact⟨1,ue,rfl⟩
theorem vs9(d:o=5\/o=14\/o=15)(pl q:Int):qR o pl [.err q]=.err q:=by rcases d with rfl|rfl|rfl<;>rfl
theorem vse(f:6<=o/\o<=13\/16<=o/\o<=19)(pl:Int)(e:0<=a/\a<=3)(d:0<=b/\b<=3):∃c',hsc o=cc c'/\qR o pl [.ok a,.ok b]=if(jm (wnt o) (cc a)||(jm (wnt o) (cc b)||false)||((o==8||o==9)&&(cc a != cc b&&cc a != 0&&cc b != 0)))=true then .err pl else .ok c':=by
 have h:o=6\/o=7\/o=8\/o=9\/o=10\/o=11\/o=12\/o=13\/o=16\/o=17\/o=18\/o=19:=ub;rcases h with rfl|rfl|rfl|rfl|rfl|rfl|rfl|rfl|rfl|rfl|rfl|rfl<;>rcases c4 e with rfl|rfl|rfl|rfl<;>rcases c4 d with rfl|rfl|rfl|rfl<;>first
  | exact⟨3,ue,rfl⟩
  | exact⟨1,ue,rfl⟩
theorem vrz(d:6<=o/\o<=13\/16<=o/\o<=19)(pl q:Int):(∀r,qR o pl [.err q,r]=.err q)/\∀a,qR o pl [.ok a,.err q]=.err q:=by
 have h:o=6\/o=7\/o=8\/o=9\/o=10\/o=11\/o=12\/o=13\/o=16\/o=17\/o=18\/o=19:=ub;rcases h with rfl|rfl|rfl|rfl|rfl|rfl|rfl|rfl|rfl|rfl|rfl|rfl<;>exact⟨λr=>rfl,λa=>rfl⟩
theorem vsf(pl:Int)(f:0<=a/\a<=3)(e:0<=b/\b<=3)(d:0<=c/\c<=3):qR 20 pl [.ok a,.ok b,.ok c]=if(jm 2 (cc a)||(jm 2 (cc b)||(jm 2 (cc c)||false)))=true then .err pl else .ok 3:=by
 rcases c4 f with rfl|rfl|rfl|rfl<;>rcases c4 e with rfl|rfl|rfl|rfl<;>rcases c4 d with rfl|rfl|rfl|rfl<;>rfl
theorem CEnd.err{q:Int}(h:CEnd cs l (.err q))(k:List RN):yN cs (l++k)=.inl q:=by
 have h:yN cs l=.inl q:=h;rw[yx,h]
theorem qx9(l:List Int)(v:Int):(l++[v]).getD l.length 0=v:=uc
theorem qw4(H:cs.length=off)(F:0<l.length)(j:p.op=5\/p.op=14\/p.op=15\/p.op=21\/p.op=22\/p.op=23)(d:CEnd cs l (qy x))(v:p.op=21\/p.op=22\/p.op=23->∃c,qy x=.ok c):
  CEnd cs (l++[jC p [off+l.length - 1] neg]) (qy (.un p x)):=by
 show CEnd cs _ (qR p.op p.M [qy x])
 cases hc:qy x with
 | err q=>
  rw[hc]at d v;rw[vs9 (by rcases j with h|h|h|h|h|h;exact .inl h;exact .inr (.inl h);exact .inr (.inr h);all_goals(obtain⟨c,e⟩:=v ub;cases e))];exact d.err _
 | ok c=>
  rw[hc]at d;obtain⟨ds,u,t,C⟩:=d;have z:=pu x c hc;obtain⟨G,A,B⟩:=vsd j p.M z;have m:qns (jC p [off+l.length - 1] neg).op=p.op:=qyb rfl ub ub
  have E:ji (cs++ds) (off+l.length - 1)=cc c:=by
   have:=qrx (cs:=cs) (ds:=ds) (es:=[]) (k:=off+l.length - 1) ub ub;rw[fw]at this;rw[this,show off+l.length - 1 - cs.length=l.length - 1 by omega];exact C
  have s:qif (cs++ds) (jC p [off+l.length - 1] neg)=jm (wnt p.op) (cc c):=by
   unfold qif;rw[m]
   have D:(p.op==8||p.op==9)=false:=by
    rw[ii];exact⟨bh.2 ub,bh.2 ub⟩
   rw[D,oo,mj];show([off+l.length - 1].any λk=>jm (wnt p.op) (ji (cs++ds) k))=_;simp only[List.any_cons,List.any_nil,mj,E]
  rw[B]
  split
  .rename_i f
   show yN cs _=.inl _;rw[yW u,bo (by rw[s];exact f)];rfl
  rename_i f;refine⟨ds++[hsc p.op], ?_,by simp[t], ?_⟩;rw[yW u,ak (by rw[s];exact f),m];rw[<-A];simp[t]
theorem vcs{k:List RN}(K:cs.length=off)(H:0<l.length)(I:0<k.length)(f:6<=p.op/\p.op<=13\/16<=p.op/\p.op<=19)(e:CEnd cs l (qy x))(d:∀ds:List Int,ds.length=l.length->CEnd (cs++ds) k (qy y)):
  CEnd cs (l++k++[jC p [off+l.length - 1,off+l.length+k.length - 1] false]) (qy (.bin p x y)):=by
 show CEnd cs _ (qR p.op p.M [qy x,qy y])
 cases hc:qy x with
 | err q=>
  rw[hc]at e;rw[(vrz f p.M q).1];show yN cs _=.inl q;rw[bu];exact e.err _
 | ok a=>
  rw[hc]at e;obtain⟨ds,u,m,D⟩:=e;have d:=d ds m
  cases hd:qy y with
  | err q=>
   rw[hd]at d;rw[(vrz f p.M q).2];show yN cs _=.inl q;rw[bu,yx,u];exact d.err _
  | ok b=>
   rw[hd]at d;obtain⟨es,F,v,E⟩:=d;have z:yN cs (l++k)=.inr (cs++(ds++es)):=by rw[yx,u];show yN (cs++ds) k=_;rw[F,bu]
   obtain⟨J,A,B⟩:=vse f p.M (pu x a hc) (pu y b hd);have s:qns (jC p [off+l.length - 1,off+l.length+k.length - 1] false).op=p.op:=qyb rfl ub ub
   have C:ji (cs++(ds++es)) (off+l.length - 1)=cc a:=by
    rw[<-bu,qrx ub ub,show off+l.length - 1 - cs.length=l.length - 1 by omega];exact D
   have G:ji (cs++(ds++es)) (off+l.length+k.length - 1)=cc b:=by
    have:=qrx (cs:=cs++ds) (ds:=es) (es:=[]) (k:=off+l.length+k.length - 1) ud ud;rw[fw]at this;rw[<-bu,this,show off+l.length+k.length - 1 - (cs++ds).length=k.length - 1 by simp;omega];exact E
   have t:qif (cs++(ds++es)) (jC p [off+l.length - 1,off+l.length+k.length - 1] false)=(jm (wnt p.op) (cc a)||(jm (wnt p.op) (cc b)||false)||((p.op==8||p.op==9)&&(cc a != cc b&&cc a != 0&&cc b != 0))):=by
    unfold qif;rw[s,<-C,<-G];rfl
   rw[B]
   split
   .rename_i j
    show yN cs _=.inl _;rw[yW z,bo (by rw[t];exact j)];rfl
   rename_i j;refine⟨ds++es++[hsc p.op], ?_,by simp[m,v], ?_⟩;rw[yW z,ak (by rw[t];exact j),s];rw[<-A];simp[m,v]
theorem qq9{z:Ast}{k r:List RN}(Q:cs.length=off)(N:0<l.length)(O:0<k.length)(P:0<r.length)(t:p.op=20)(j:CEnd cs l (qy x))(f:∀ds:List Int,ds.length=l.length->CEnd (cs++ds) k (qy y))(e:∀ds:List Int,ds.length=l.length+k.length->CEnd (cs++ds) r (qy z)):
  CEnd cs (l++k++r++[jC p [off+l.length - 1,off+l.length+k.length - 1,off+l.length+k.length+r.length - 1] neg]) (qy (.tri p x y z)):=by
 show CEnd cs _ (qR p.op p.M [qy x,qy y,qy z]);rw[t]
 cases hc:qy x with
 | err q=>
  rw[hc]at j;show yN cs _=.inl q;rw[bu,bu];exact j.err _
 | ok a=>
  rw[hc]at j;obtain⟨ds,A,s,G⟩:=j;have f:=f ds s
  cases hd:qy y with
  | err q=>
   rw[hd]at f;show yN cs _=.inl q;rw[bu,bu,yx,A];exact f.err _
  | ok b=>
   rw[hd]at f;obtain⟨es,I,B,H⟩:=f;have C:yN cs (l++k)=.inr (cs++(ds++es)):=by rw[yx,A];show yN (cs++ds) k=_;rw[I,bu]
   have e:=e (ds++es) (by simp[s,B])
   cases hf:qy z with
   | err q=>
    rw[hf]at e;show yN cs _=.inl q;rw[bu,yx,C];exact e.err _
   | ok c=>
    rw[hf]at e;obtain⟨d,L,K,J⟩:=e;have D:yN cs (l++k++r)=.inr (cs++(ds++es++d)):=by rw[yx,C];show yN (cs++(ds++es)) r=_;rw[L,bu]
    have u:qns (jC p [off+l.length - 1,off+l.length+k.length - 1,off+l.length+k.length+r.length - 1] neg).op=20:=qyb t ue ue
    have F:ji (cs++(ds++es++d)) (off+l.length - 1)=cc a:=by
     rw[bu ds,<-bu cs,qrx ub ub,show off+l.length - 1 - cs.length=l.length - 1 by omega];exact G
    have M:ji (cs++(ds++es++d)) (off+l.length+k.length - 1)=cc b:=by
     rw[bu ds,<-bu cs,<-bu (cs++ds),qrx ud ud,show off+l.length+k.length - 1 - (cs++ds).length=k.length - 1 by simp;omega];exact H
    have E:ji (cs++(ds++es++d)) (off+l.length+k.length+r.length - 1)=cc c:=by
     have:=qrx (cs:=cs++(ds++es)) (ds:=d) (es:=[]) (k:=off+l.length+k.length+r.length - 1) ud ud;rw[fw]at this;rw[<-bu cs,this,show off+l.length+k.length+r.length - 1 - (cs++(ds++es)).length=r.length - 1 by simp;omega];exact J
    have v:qif (cs++(ds++es++d)) (jC p [off+l.length - 1,off+l.length+k.length - 1,off+l.length+k.length+r.length - 1] neg)=(jm 2 (cc a)||(jm 2 (cc b)||(jm 2 (cc c)||false))):=by
     unfold qif;rw[u,<-F,<-M,<-E];rw[show(((20:Int)==8)||((20:Int)==9))=false from rfl,oo,mj];rfl
    rw[vsf p.M (pu x a hc) (pu y b hd) (pu z c hf)]
    split
    .rename_i m
     show yN cs _=.inl _;rw[yW D,bo (by rw[v];exact m)];rfl
    rename_i m;refine⟨ds++es++d++[hsc 20], ?_,by simp[s,B,K], ?_⟩;rw[yW D,ak (by rw[v];exact m),u];rw[show(l++k++r++[jC p [off+l.length - 1,off+l.length+k.length - 1,off+l.length+k.length+r.length - 1] neg]).length - 1=(ds++es++d).length by simp only[ce,du];omega,qx9];decide
theorem qw2(h:∀c,qy x=.ok c->c=3):qy (.un ⟨5,pl,0,[],[],[]⟩ x)=qy x:=by
 show qR 5 pl [qy x]=_
 cases hx:qy x with
 | err q=>rfl
 | ok c=>rw[h c hx];rfl
theorem qnp(h:ShA x)(d:opA x=0):qy x=.ok 0:=by
 cases x with
 | leaf p=>show qR p.op p.M []=_;rw[show p.op=0 from d];rfl
 | un p x=>exact absurd h.1 (by have:p.op=0:=d;omega)
 | bin p x y=>exact absurd h.1 (by have:p.op=0:=d;omega)
 | tri p x y z=>exact absurd h.1 (by have:p.op=0:=d;omega)
theorem vct:∀{t:Ast} {off:Nat} {l:List RN},Flat t off l->ShA t->∀cs:List Int,cs.length=off->CEnd cs l (qy t):=by
 intro t off l h
 induction h with
 | leaf p off=>intro d cs f;exact vcu off d f
 | un p hx ih=>
  intro d cs f;exact qw4 f hx.pos d.1 (ih d.2.2.2 cs f) (λe=>⟨0,qnp d.2.2.2 (d.2.2.1 e)⟩)
 | bin p hx hy ihx ihy=>
  intro d cs f;exact vcs f hx.pos hy.pos d.1 (ihx d.2.1 cs f) (λds hd=>ihy d.2.2 (cs++ds) ud)
 | tri p hx hy hz ihx ihy ihz=>
  intro d cs f;exact qq9 f hx.pos hy.pos hz.pos d.1 (ihx d.2.1 cs f) (λds hd=>ihy d.2.2.1 (cs++ds) ud) (λds hd=>ihz d.2.2.2 (cs++ds) ud)
 | neg1 pl q hq hx ih=>
  intro d cs f;obtain⟨_,_,_,d⟩:=d;have m:q.op=21\/q.op=22\/q.op=23:=hq
  rw[qw2 (λc e=>by
   have:qR q.op q.M [qy _]=.ok c:=e;rw[qnp d.2.2.2 (d.2.2.1 m)]at this
   rcases m with e|e|e<;>rw[e]at this<;>(injection this with this;exact this.symm))]
  exact qw4 f hx.pos d.1 (ih d.2.2.2 cs f) (λe=>⟨0,qnp d.2.2.2 (d.2.2.1 e)⟩)
 | neg3 pl q hq hx hy hz ihx ihy ihz=>
  intro d cs f;obtain⟨_,_,_,d⟩:=d
  rw[qw2 (λc e=>by
   have:qR q.op q.M [qy _,qy _,qy _]=.ok c:=e;rw[hq]at this;have j:zN 1 q.M 3 _=.ok c:=this;unfold zN at j
   split at j
   injection j with j;exact j.symm
   cases j)]
  exact qq9 f hx.pos hy.pos hz.pos d.1 (ihx d.2.1 cs f) (λds hd=>ihy d.2.2.1 (cs++ds) ud) (λds hd=>ihz d.2.2.2 (cs++ds) ud)
theorem NodesAt.cells(h:NodesAt w rb (C (G ⟨g,0,O⟩) LN cap) ns)(f:ns[i]?=G n):
  LN=ns.length/\∃iv lv,RowOf w rb 3 iv (pP n.ins)/\RowOf w rb 9 lv (qx n.P)/\∀k,k<9->w.cell? ⟨g,i * 9+k,O⟩=(gm n iv lv)[k]?:=by
 obtain⟨d,z,m,q⟩:=h;have D:=(aj.1 f).1
 have v:LN=ns.length:=by
  obtain⟨_,t|⟨A,cap',cur,e,_⟩⟩:=m;cases t.1;injection e with _ B _
 subst v;obtain⟨r,j⟩:∃r,d[i]?=G r:=⟨d[i],ag ub⟩;have s:(ns.zip d)[i]?=G (n,r):=by rw[sf];exact⟨f,j⟩
 refine⟨rfl,r.1,r.2,(q i n r f j).1,(q i n r f j).2,λk u=>?_⟩;rw[m.cellAt (i * 9+k) ub];exact vp1 (λx:RN×(Ap×Ap)=>gm x.1 x.2.1 x.2.2) (λa=>rfl) (ns.zip d) i (n,r) s k u
theorem RowOf.get{ty:TypeId}{v:Ap}{vs:List Ap}(h:RowOf w rb ty v vs){u:Ap}(d:vs[k]?=G u):∃q cap,v=C (G ⟨q,0,O⟩) vs.length cap/\Xc w q k u:=by
 rcases h with⟨rfl,_⟩|⟨q,cap,c,fr,hv,_,f,_,e⟩;simp at d;refine⟨q,cap,hv, ?_⟩;have:=e k u d;simp[World.cell?,f,this]
theorem qqk{α:Type}(f:α->List Ap)(e:∀a,(f a).length=9)(v:Ap):∀(l:List α) (i:Nat) (a d:α),l[i]?=G a->f d=(f a).set 8 v->(l.set i d).flatMap f=(l.flatMap f).set (i * 9+8) v:=by
 intro l
 induction l with
 | nil=>intro i a d h;simp at h
 | cons b l ih=>
  intro i a d h j
  cases i with
  | zero=>
   simp at h;subst h;rw[List.set_cons_zero,dp,dp,j,List.set_append_left _ _ (by rw[e];omega)]
  | succ i=>
   rw[List.set_cons_succ,dp,dp,nh _ _ (by rw[e];omega),e,ih i a d (by simpa using h) j,show(i+1) * 9+8 - 9=i * 9+8 by omega]
theorem NodesAt.setCls(h:NodesAt w rb (C (G ⟨g,0,O⟩) LN cap) ns)(c0:Xc w rb 0 (C (G ⟨g,0,O⟩) LN cap))(z:ns[i]?=G n)(c:Int):
  NodesAt (w.setCell ⟨g,i * 9+8,O⟩ (I J c)) rb (C (G ⟨g,0,O⟩) LN cap) (ns.set i { n with H:=c })/\TKept rb w (w.setCell ⟨g,i * 9+8,O⟩ (I J c))/\(w.setCell ⟨g,i * 9+8,O⟩ (I J c)).1[rb]?=w.1[rb]?/\Xf w g:=by
 obtain⟨d,D,B,u⟩:=h;have L:=(aj.1 z).1;have M:pO w rb g:=.inr ⟨_,c0,rfl⟩;have P:=B.lt g rfl;have F:g≠rb:=ub;have Q:(w.setCell ⟨g,i * 9+8,O⟩ (I J c)).1[rb]?=w.1[rb]?:=au w ⟨g,i * 9+8,O⟩ _ rb (λe=>F e.symm)
 have q:TKept rb w (w.setCell ⟨g,i * 9+8,O⟩ (I J c)):=by
  refine⟨rfl,rfl,rfl,uc,λk _ G1=>au w ⟨g,i * 9+8,O⟩ _ k (λe=>G1 (by have Y:k=g:=e;rw[Y];exact M)),λk _ v=>(qnw w F (i * 9+8) _ k).1 v⟩
 obtain⟨Z,N|⟨g',cap',cur,e,I7,K,U,T,S,R⟩⟩:=B
 .cases N.1
 injection e with s X W;injection s with s;injection s with s;subst s X W;have A:(ns.zip d)[i]?=G (n,d[i]'ub):=by rw[sf];exact⟨z,ag ub⟩
 have E:((ns.set i { n with H:=c }).zip d)=(ns.zip d).set i ({ n with H:=c },d[i]'ub):=by
  apply ix;intro k;rw[fq,List.zip_eq_zipWith,List.zip_eq_zipWith,List.getElem?_zipWith,List.getElem?_zipWith,fq]
  by_cases v:i=k
  subst v;simp[L,D];simp[v]
 refine⟨⟨d,by simp[D],⟨?_,.inr ⟨g,cap,cur.setIfInBounds (i * 9+8) (I J c),uc,I7,pJ K _ _,by simpa using U,T,by simpa using S, ?_⟩⟩,λj m r f t=>?_⟩,q,Q,λj=>(kh K).2 j⟩;rw[E,qqk (λx:RN×(Ap×Ap)=>gm x.1 x.2.1 x.2.2) (λa=>rfl) (I J c) (ns.zip d) i _ _ A rfl,eu,eu];exact Z;rw[E,qqk (λx:RN×(Ap×Ap)=>gm x.1 x.2.1 x.2.2) (λa=>rfl) (I J c) (ns.zip d) i _ _ A rfl,eu,<-R,Array.toList_setIfInBounds,List.take_set]
 by_cases mU:i=j
 subst mU;rw[mw L]at f;injection f with f;subst f;exact⟨(u i n r z t).1.T q,(u i n r z t).2.T q⟩;rw[nz mU]at f;exact⟨(u j m r f t).1.T q,(u j m r f t).2.T q⟩
def zH(ns:List RN)(cs:List Int):List RN:=(ns.zipIdx).map λx=>{ x.1 with H:=if x.2<cs.length then cs.getD x.2 0 else x.1.H }
theorem qkv(ns:List RN):zH ns []=ns:=by
 unfold zH;apply ix;intro i;rw[cm,List.getElem?_zipIdx];cases ns[i]?<;>simp
theorem yC:(zH ns cs)[i]?=(ns[i]?).map λn=>{ n with H:=if i<cs.length then cs.getD i 0 else n.H }:=by
 unfold zH;rw[cm,List.getElem?_zipIdx];cases ns[i]?<;>simp
theorem qe7(ns:List RN)(cs:List Int):(zH ns cs).length=ns.length:=by unfold zH;simp
theorem qus(h:ns[cs.length]?=G n)(c:Int):(zH ns cs).set cs.length { n with H:=c }=zH ns (cs++[c]):=by
 apply ix;intro i;have d:=(aj.1 h).1;rw[fq,yC,yC]
 by_cases hi:cs.length=i
 subst hi;rw[bo rfl,bo (by rw[qe7];exact d),h];simp;rw[ak hi]
 cases hn:ns[i]? with
 | none=>rfl
 | some m=>
  simp only[nl]
  by_cases h2:i<cs.length
  have:i<(cs++[c]).length:=ud;simp[h2,cg h2];omega;have:¬i<(cs++[c]).length:=ud;simp[h2];omega
structure NF(i:Nat)(n:RN)(o:Int):Prop where
 o0:0<=o
 o23:o<=23
 op:n.op=qH o
 ins:∀k∈n.ins,k<i
 two:o=8\/o=9->∃a b,n.ins=[a,b]
 few:n.ins.length<=3
def qeu(R:Sum Int (List Int))(top:Nat):Int×Int:=match R with
 | .inl q=>(4,q)
 | .inr cs=>if cs.getD top 0≠0/\cs.getD top 0≠1 then(4,0) else(0,0)
theorem qdx(h:ns[cs.length]?=G n):yN cs (ns.drop cs.length)=if qif cs n=true then .inl n.at' else yN (cs++[hsc (qns n.op)]) (ns.drop (cs.length+1)):=by
 have d:=(aj.1 h).1;rw[cj d,(aj.1 h).2,yN]
theorem vd6(o:Int)(d:0<=o)(e:o<=23):((BS (qH o)).toList==[61])=(o==8)/\((BS (qH o)).toList==[60,62])=(o==9):=by
 rw[qP];have:∀i:Fin 24,(qH (i.val:Int)==[61])=((i.val:Int)==8)/\(qH (i.val:Int)==[60,62])=((i.val:Int)==9):=by decide +kernel
 have:=this ⟨o.toNat,ub⟩;rwa [show((o.toNat:Nat):Int)=o by omega]at this
structure ClW(w:Ao)(rb g LN cap:Nat)(ns:List RN)(cs:List Int)(wr:Ao):Prop where
 c0:wr.cell? ⟨rb,0,O⟩=G (C (G ⟨g,0,O⟩) LN cap)
 nodes:NodesAt wr rb (C (G ⟨g,0,O⟩) LN cap) (zH ns cs)
 T:TKept rb w wr
 lt:rb<wr.1.size
theorem ClW.below{e:Ao}(h:ClW w rb g LN cap ns cs wr)(d:Xb wr e):ClW w rb g LN cap ns cs e:=
 ⟨((qk d).1 _ _ h.lt).trans h.c0,h.nodes.below h.lt d,h.T.trans (TKept.of_below d h.lt),aq h.lt d.size⟩
theorem ClW.H(h:ClW w rb g LN cap ns cs wr)(e:k<cs.length)(j:cs.length<=ns.length):wr.cell? ⟨g,k * 9+8,O⟩=G (I J (ji cs k)):=by
 have d:(zH ns cs)[k]?=G { ns[k]'ub with H:=cs.getD k 0 }:=by
  rw[yC,ag ub];simp[e]
 obtain⟨_,iv,lv,_,_,f⟩:=h.nodes.cells d;rw[f 8 ub];rfl
theorem ClW.set(h:ClW w rb g LN cap ns cs wr)(d:ns[cs.length]?=G n)(c:Int):ClW w rb g LN cap ns (cs++[c]) (wr.setCell ⟨g,cs.length * 9+8,O⟩ (I J c))/\TKept rb wr (wr.setCell ⟨g,cs.length * 9+8,O⟩ (I J c))/\g<wr.1.size/\Xf wr g:=by
 have t:(zH ns cs)[cs.length]?=G n:=by rw[yC,d];simp
 obtain⟨f,e,s,q⟩:=h.nodes.setCls h.c0 t c;rw[qus d]at f;have m:g<wr.1.size:=by obtain⟨u,_,j,_⟩:=h.nodes;exact(j.lt g rfl).2
 exact⟨⟨(aw (w:=wr) (a:=⟨rb,0,O⟩) s).trans h.c0,f,h.T.trans e,by simpa using h.lt⟩,e,m,q⟩
theorem qm9(d:NF i n o):qif cs n=((n.ins.any λk=>jm (wnt o) (ji cs k))||((o==8||o==9)&&(ji cs (n.ins.getD 0 0) != ji cs (n.ins.getD 1 0)&&ji cs (n.ins.getD 0 0) != 0&&ji cs (n.ins.getD 1 0) != 0))):=by
 unfold qif;rw[d.op,qa2 d.o0 d.o23]
end Go.Proofs.YtdmmmgodfceilaaGreatDoor
