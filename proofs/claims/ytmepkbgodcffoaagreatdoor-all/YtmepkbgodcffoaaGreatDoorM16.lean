/- The document's answer -/
import Derived.Test.YtmepkbgodcffoaaGreatDoorM13
import Derived.Test.YtmepkbgodcffoaaGreatDoorM05
set_option maxHeartbeats 64000000
set_option maxRecDepth 100000
namespace Go.Proofs.YtmepkbgodcffoaaGreatDoor
open Go.RowKit Go.Proofs.Tryz
open _root_.List renaming length->A
open Go.World renaming setCell->B,ownsRow->ue
open Go.Value renaming ownBlock->ug,agg->Ai,bool->Ah,int->I,pointer->Ag,slice->C,string->Y,tuple->Aj
open Bool renaming false->uh,true->ui
open Go.Addr renaming mk->D
open _root_.Array renaming size->Z,toList->T
open Go renaming Value->Ap,World->Ao
open Go.Ending renaming returned->Ak
open Go.IntKind renaming i64->J
open Go.Obj renaming cells->Al
open Option renaming none->O,some->G
variable{t:Ast}{neg:Bool}{a c en o pl:Int}{cs:List Int}{ins rs:List Nat}{l ns:List RN}{ts:List Tm}{ds vs:List V}{H LN b cap g hb ho i j k m n off op pb rb:Nat}{p:Pay}{s:Ps}{r:Res}{st:St}{x y:V}{rv tv:Ap}{W w w' w1 w2 wr:Ao}
theorem REnds.slack{s:uj}{j' d:Nat}{e:Ending}(h:REnds rb s w op m ns j d r e w')(q:j'<=j):REnds rb s w op m ns j' d r e w':=by
 obtain⟨f,h⟩:=h
 grind[RT.less,REnds]
theorem kI(rb:Nat)(s:uj)(op m:Nat)(f:St->Res)(w:Ao)(st:St)(ns:List RN)(j:Nat)(l:Ast)(d:St)(ua:T1 rb s op m f w st ns j l d){b:Bool}(hb:qc5 st l=b)(U:d.tk.Q=7)
  (hC:(W3 (qh s d) ui uh uh/\(qh s d).tk.Q=10/\True/\r=vjd ui d.U (qY s f l (qh s d)))\/(W3 (qh s d) uh ui uh/\(qh s d).tk.Q=11/\b=ui/\r=vjd ui d.U (y7 s l (qh s d)))\/(W3 (qh s d) uh uh ui/\(qh s d).tk.Q=12/\b=ui/\r=vjd ui d.U (vB s l (qh s d)))\/(W3 (qh s d) uh uh uh/\True/\True/\r=.err 2 (qh s d).U)\/(W3 (qh s d) uh ui uh/\True/\b=uh/\r=.err 2 (qh s d).U)\/(W3 (qh s d) uh uh ui/\True/\b=uh/\r=.err 2 (qh s d).U)) :
  uo 215 #[.pointer (G (D rb 0 O))] w (DEnds rb s w op (m+1) ns j st.U r):=by
 obtain⟨L,hm,dR,hf,eS,h,ho,D4⟩:=ua;obtain⟨k2,_⟩:=h.ct;have A1:=h.lt;have HC:=qd (hf w st ns j h ho);have HF:=qd hf;have ES:=qd eS;have O5:=qd D4;obtain⟨b0,G9⟩:∃b:Bool,(opA l==0)=b:=⟨_,rfl⟩;have lN:=qd G9;have hq:=qh5 hb G9;have dU:decide (16<=d.tk.Q/\d.tk.Q<=21)=uh:=da uq;obtain⟨dS,uH⟩:W2 d uh ui:=.lit (by rw[U];rfl) (by rw[U];rfl);have AR:=qd U;clear h hf eS D4 hb G9 U;obtain⟨⟨C,F,I⟩,v,B,rfl⟩|⟨⟨C,F,I⟩,v,B,rfl⟩|⟨⟨C,F,I⟩,v,B,rfl⟩|⟨⟨C,F,I⟩,v,B,rfl⟩|⟨⟨C,F,I⟩,v,B,rfl⟩|⟨⟨C,F,I⟩,v,B,rfl⟩:=hC
 all_goals
  obtain⟨q2,T⟩|⟨q2,rfl,T⟩|⟨q2,rfl,T⟩:=hq
 all_goals
  first|exact absurd (B.symm.trans T) uu|skip
 all_goals
  clear B T;have IZ:=qd v;clear v;go_enter func215,ntmps215
  go_wp2_with(first|(go_at_call 236;refine HC.mono ?_;rintro e w1⟨A5,h1⟩;rw[q9 O5]at h1;obtain⟨new,he,J,X,U8,F9⟩:=h1;obtain⟨u,Y⟩:∃k:Nat,A ns+A new - 1=k:=⟨_,rfl⟩;rw[Y]at he;subst he;obtain⟨gN,capN,LN,N,cN0,lF,cN,GZ⟩:=J.opAt F9 Y;rw[q9 lN]at GZ;have c8:=J.c8;obtain⟨t2,t3,t4,t5,t6⟩:=J.ct;have lV:=J.lt;have nL:¬rb=Z w1.1:=uq;have nL':¬Z w1.1=rb:=uq;have uJ:gN<Z w1.1:=nt w1 _ cN;have eA:=qd Y;have I8:=qd J;have L8:=qd A5;have V3:=qd F9;clear A5 J F9 Y)|(go_at_call 237;refine be (yk _ _ _ _ _ _) λw2 A3=>?_;rw[kU d,dU];have P:=VN.new I8 171 #[.int .i64 (rK d.tk.Q),.int .i64 d.U,.int .i64 (tkZ d),.string (BS (tkS d)),.int .i64 (tkN d)] rfl;have eV:=(q9 I8).alloc (Al #[.int .i64 (rK d.tk.Q),.int .i64 d.U,.int .i64 (tkZ d),.string (BS (tkS d)),.int .i64 (tkN d)] 171);have aJ:=TKept.x A3 eV.lt;have mL:=P.P aJ;have C8:=eV.h A3;have B8:=(L8.alloc A1 (Al #[.int .i64 (rK d.tk.Q),.int .i64 d.U,.int .i64 (tkZ d),.string (BS (tkS d)),.int .i64 (tkN d)] 171)).trans aJ;have L5:=C8.lt;obtain⟨_,u3,_⟩:=C8.ct;have nM1:¬rb=Z w2.1:=uq;have nM2:¬rb=Z w2.1+1:=uq;have nM3:¬Z w2.1=rb:=uq;have nM4:¬Z w2.1+1=rb:=uq;have R:=qd C8;have Q9:=qd B8;clear A3 P eV aJ mL C8 B8)|(go_at_call 129;(first|refine(qk5 Q).mono ?_|refine(qk5 R).mono ?_|refine(qk5 ((R.alloc _).alloc _)).mono ?_);rintro e w'⟨rfl,hw'⟩;subst w';simp only[dS,uH,C,F,I])|(go_at_call 92;have MY:RT ((w2.alloc (Al #[.int .i64 u] 3)).alloc (Al #[.string ⟨#[]⟩,.int .i64 0,.slice (G ⟨Z w2.1,0,O⟩) 1 1,.string ⟨#[]⟩,.string ⟨#[]⟩,.slice O 0 0,.int .i64 0,.bool ui,.int .i64 0] 178)) rb s (ns++new) j d:=(R.alloc _).alloc _;refine be (jU MY L (md (q9 AR)) (md (q9 AR))) ?_;rintro w3⟨F2,F3⟩;have mS:VN ((w2.alloc (Al #[.int .i64 u] 3)).alloc (Al #[.string ⟨#[]⟩,.int .i64 0,.slice (G ⟨Z w2.1,0,O⟩) 1 1,.string ⟨#[]⟩,.string ⟨#[]⟩,.slice O 0 0,.int .i64 0,.bool ui,.int .i64 0] 178)) rb (Z w2.1) 3 #[.int .i64 u]:=(VN.new R 3 #[.int .i64 u] rfl).alloc ut _;have P:VN ((w2.alloc (Al #[.int .i64 u] 3)).alloc (Al #[.string ⟨#[]⟩,.int .i64 0,.slice (G ⟨Z w2.1,0,O⟩) 1 1,.string ⟨#[]⟩,.string ⟨#[]⟩,.slice O 0 0,.int .i64 0,.bool ui,.int .i64 0] 178)) rb (Z w2.1+1) 178 #[.string ⟨#[]⟩,.int .i64 0,.slice (G ⟨Z w2.1,0,O⟩) 1 1,.string ⟨#[]⟩,.string ⟨#[]⟩,.slice O 0 0,.int .i64 0,.bool ui,.int .i64 0]:=VN.new (R.alloc _) _ _ ur;have K:=P.P F2;have M:=mS.P F2;have hL3:=K.lt;have sD:=F3.lt;obtain⟨_,u33,_⟩:=F3.ct;have y0:∀i,w3.cell? ⟨Z w2.1+1,i,O⟩=(#[.string ⟨#[]⟩,.int .i64 0,.slice (G ⟨Z w2.1,0,O⟩) 1 1,.string ⟨#[]⟩,.string ⟨#[]⟩,.slice O 0 0,.int .i64 0,.bool ui,.int .i64 0]:Array Ap)[i]?:=(λi=>K.cell i);have yz:Xf w3 (Z w2.1+1):=K.frz;have dG:=(q9 I8).y.W (by grind[Hid]);have Q:=qd (K.rt uu uu F3 1 (.int .i64 (qh s d).U));have z:=qd (M.setB uq nM4 1 (.int .i64 (qh s d).U));have dD:=qd (((((Q9.alloc A1 _).alloc A1 _).trans F2).far A1 (p:=⟨Z w2.1+1,1,O⟩) (by show Z w.1<=Z w2.1+1;have:=(q9 Q9).size;omega) (.int .i64 (qh s d).U)));clear F2 F3 P mS K M MY)|(go_at_call 239;refine(qd4 rb s L op m hm dR f HF ES _ (qh s d) ns new (j+1) l Q X IZ V3 u eA.symm (Z w2.1) z ui d.U).mono ?_;rintro e w5 q;obtain⟨v5,rfl⟩:=q.ret;have H5:=qd q;clear q)|(go_at_call 240;refine(qhl rb s L op (m+1) uq _ (qh s d) ns new (j+1) l Q X IZ V3 u eA.symm (Z w2.1) z ui d.U).mono ?_;rintro e w5 q;obtain⟨v5,rfl⟩:=q.ret;have H5:=qd q;clear q)|(go_at_call 241;refine(qnu rb s L op (m+1) uq _ (qh s d) ns new (j+1) l Q X IZ V3 u eA.symm (Z w2.1) z ui d.U).mono ?_;rintro e w5 q;obtain⟨v5,rfl⟩:=q.ret;have H5:=qd q;clear q)|(go_at_call 94;refine be (pS Q L 2 (qh s d).U uu) ?_;rintro w5⟨bT,cL⟩;have bP:=qd (dD.trans bT);have aE:=qd cL;clear bT cL))
  go_ret
  first
   | exact((H5.slack uq).from dD uq).d
   | exact⟨q9 bP,u,rfl,.inl (X ▸ (q9 aE).more uq)⟩
theorem vei(rb:Nat)(s:uj)(op m:Nat)(f:St->Res)(u:RReads 236 rb s op m f)(w:Ao)(st:St)(ns:List RN)(j:Nat)(h:RT w rb s ns j st)(ho:st.op=op)(C:f st=.err en pl):
  uo 215 #[Ag (G (D rb 0 O))] w (DEnds rb s w op (m+1) ns j st.U (.err en pl)):=by
 obtain⟨J,_⟩:=h.ct;have B:=qd (u w st ns j h ho);have v:=qd C;go_enter func215,ntmps215
 go_wp2_with(refine B.mono ?_;rintro e w1⟨F,d⟩;rw[q9 v]at d;obtain⟨i,rfl,q⟩:=d;obtain⟨c8,I⟩:=q.c8;have z:=qd F;have A:=qd q)
 go_ret;exact⟨q9 z,i,rfl,.inl (A.more uq)⟩
theorem qsq(rb:Nat)(s:uj)(v:s.size<=200)(op m:Nat)(z:200<=m)(C:m<=900)(f:St->Res)(A:RReads 236 rb s op m f)(B:xY 236 rb s):DReads 215 rb s op (m+1) (zH s f (y7 s) (vB s)):=by
 intro w st ns j h ho
 cases D4:f st with
 | err en pl =>grind[zH,vei]
 | ok l A9=>
  rw[show zH s f (y7 s) (vB s) st=zG s f (y7 s) (vB s) (qc5 st l) l A9 by unfold zH;rw[D4]];have ua:T1 rb s op m f w st ns j l A9:=⟨v,z,C,A,B,h,ho,D4⟩;unfold zG
  split
  .grind[veh]
  split
  .rename_i d
   split
   rename_i hb;exact yV rb s op m f w st ns j l A9 ua hb (da uq) (.inl ⟨.lit uv uv,.lit uv uv uv,d,rfl,rfl⟩);rename_i hb;exact yV rb s op m f w st ns j l A9 ua (Bool.eq_false_iff.2 hb) (da uq) (.inr (.inr (.inl ⟨.lit uv uv,.lit uv uv uv,trivial,rfl,rfl⟩)))
  split
  .rename_i bS
   obtain⟨r,u⟩:=ie (vD s f (y7 s) (vB s) (qc5 st l) l (qh s A9));rw[u];suffices hS:uo 215 #[.pointer (G (D rb 0 O))] w (DEnds rb s w op (m+1) ns j st.U (vjd ui A9.U r)) by cases r<;>exact hS
   rw[<-u];unfold vD
   split
   .rename_i h2;exact kI rb s op m f w st ns j l A9 ua h2.2 bS (.inr (.inl ⟨.lit uv uv uv,h2.1,rfl,rfl⟩))
   rename_i e
   split
   .rename_i h2;exact kI rb s op m f w st ns j l A9 ua h2.2 bS (.inr (.inr (.inl ⟨.lit uv uv uv,h2.1,rfl,rfl⟩)))
   rename_i q
   by_cases k10:(qh s A9).tk.Q=10
   exact kI rb s op m f w st ns j l A9 ua rfl bS (.inl ⟨.lit uv uv uv,k10,trivial,rfl⟩);rw[show qY s f l (qh s A9)=.err 2 (qh s A9).U by unfold qY;rw[ak k10]]
   by_cases k11:(qh s A9).tk.Q=11
   exact kI rb s op m f w st ns j l A9 ua (by simpa [k11]using e) bS (.inr (.inr (.inr (.inr (.inl ⟨.lit uv uv uv,trivial,rfl,rfl⟩)))))
   by_cases k12:(qh s A9).tk.Q=12
   exact kI rb s op m f w st ns j l A9 ua (by simpa [k12]using q) bS (.inr (.inr (.inr (.inr (.inr (⟨.lit uv uv uv,trivial,rfl,rfl⟩))))));exact kI rb s op m f w st ns j l A9 ua rfl bS (.inr (.inr (.inr (.inl ⟨.lit uv uv uv,trivial,trivial,rfl⟩))))
  split
  .rename_i d
   unfold vD
   split
   .rename_i h2;exact yV rb s op m f w st ns j l A9 ua h2.2 (da uq) (.inr (.inr (.inr (.inr (.inl ⟨.lit uv uv,.lit uv uv uv,h2.1,rfl,rfl⟩)))))
   rename_i e
   split
   .rename_i h2;exact yV rb s op m f w st ns j l A9 ua h2.2 (da uq) (.inr (.inr (.inr (.inr (.inr (.inl ⟨.lit uv uv,.lit uv uv uv,h2.1,rfl,rfl⟩))))))
   rename_i q
   by_cases k10:A9.tk.Q=10
   exact yV rb s op m f w st ns j l A9 ua rfl (da uq) (.inr (.inr (.inr (.inl ⟨.lit uv uv,.lit uv uv uv,k10,trivial,rfl⟩))));rw[show qY s f l A9=.err 2 A9.U by unfold qY;rw[ak k10]];obtain d|d|d:=d;omega;exact yV rb s op m f w st ns j l A9 ua (by simpa [d]using e) (da uq) (.inr (.inr (.inr (.inr (.inr (.inr (.inl ⟨.lit uv uv,.lit uv uv uv,d,rfl,rfl⟩)))))));exact yV rb s op m f w st ns j l A9 ua (by simpa [d]using q) (da uq) (.inr (.inr (.inr (.inr (.inr (.inr (.inr (⟨.lit uv uv,.lit uv uv uv,d,rfl,rfl⟩))))))))
  exact yV rb s op m f w st ns j l A9 ua rfl (da uq) (.inr (.inl ⟨.lit uv uv,.lit uv uv uv,trivial,trivial,rfl⟩))
structure RR3(rb:Nat)(s:ByteArray)(op m:Nat)(L:L3):Prop where
 S:RReads 293 rb s op m L.S
 D:DReads 188 rb s op m L.D
 E:DReads 93 rb s op m L.E
theorem vwx(rb:Nat)(s:uj):xY 236 rb s/\xY 188 rb s/\xY 93 rb s:=by grind[vmx,qnh,qga,qqw,vfr,qqy,va3]
theorem vpc(rb:Nat)(s:uj)(d:s.size<=200)(op m:Nat)(q:op<=12)(u:200<=m)(I:m<=800)(L:L3)(h:op<12->RR3 rb s (op+1) m L):RR3 rb s op (m+8) (up3 s L):=by
 obtain⟨D,G,F⟩:=vwx rb s;have e:=qkc rb s d op m u uq q L.S L.E (λk=>(h k).S) (λk=>(h k).E) (qga rb s) F;have A:=qhs (.inr ⟨rfl,rfl,rfl,rfl,rfl⟩) rb s d op (m+1) uq uq _ e;have v:=qhs (.inl ⟨rfl,rfl,rfl,rfl,rfl⟩) rb s d op (m+2) uq uq _ A;have z:=qsq rb s d op (m+3) uq uq _ v D;have f:=qk4 rb s d op (m+3) uq uq q L.D _ (λk=>(h k).D.more uq) G z;have C:=qd7 (.inl ⟨rfl,rfl,rfl,rfl⟩) rb s d op (m+4) uq uq _ f;have B:=qd7 (.inr ⟨rfl,rfl,rfl,rfl⟩) rb s d op (m+5) uq uq _ C;exact⟨e.more uq,f.more uq,B.more uq⟩
theorem quc(rb:Nat)(s:uj)(e:s.size<=200):∀d op,op+d=12->RR3 rb s op (200+8 * (d+1)) (lvl s d):=by
 intro d
 induction d with
 | zero=>intro op h;exact vpc rb s e op 200 uq uq uq _ (λk=>uq)
 | succ d ih=>intro op h;exact vpc rb s e op (200+8 * (d+1)) uq uq uq _ (λ_=>ih (op+1) uq)
def wnt(o:Int):Int:=if 14<=o/\o<=19 then 2 else if 10<=o/\o<=13\/o=20 then 2 else if 5<=o/\o<=7 then 1 else -1
def hsc(o:Int):Int:=if o=0 then 0 else if o=1 then 2 else if o=2 then 3 else if 14<=o/\o<=19 then 2 else 1
def cc(c:Int):Int:=if c=1 then 2 else if c=2 then 3 else if c=3 then 1 else c
theorem qsv(o:Int)(d:0<=o)(f:o<=23)(w:Ao):
  uo 131 #[Y (BS (qJ o))] w λe w'=>e=Ak (Aj #[I J (wnt o),I J (hsc o)])/\w'=w:=by
 have ho:o=0\/o=1\/o=2\/o=3\/o=4\/o=5\/o=6\/o=7\/o=8\/o=9\/o=10\/o=11\/o=12\/o=13\/o=14\/o=15\/o=16\/o=17\/o=18\/o=19\/o=20\/o=21\/o=22\/o=23:=uq;obtain rfl|rfl|rfl|rfl|rfl|rfl|rfl|rfl|rfl|rfl|rfl|rfl|rfl|rfl|rfl|rfl|rfl|rfl|rfl|rfl|rfl|rfl|rfl|rfl:=ho
 all_goals
  simp only[BS,qJ,Int.reduceEq,if_true,if_false];go_enter func131,ntmps131
  go_wp2
  exact bo (by simp[go_sem];decide) rfl ⟨rfl,rfl⟩
def qs1(l:List UInt8):Int:=(((List.range 24).find? λi=>qJ (Int.ofNat i)==l).getD 23:Nat)
theorem qb6(d:0<=o)(e:o<=23):qs1 (qJ o)=o:=by
 have:∀i:Fin 24,qs1 (qJ (i.val:Int))=(i.val:Int):=by decide +kernel
 have:=this ⟨o.toNat,uq⟩
 grind
def jw(cs:List Int)(k:Nat):Int:=cs.getD k 0
def jz(want c:Int):Bool:=decide (0<=want)&&c != 0&&c != want
def qkz(cs:List Int)(n:RN):Bool:=
 (n.ins.any λk=>jz (wnt (qs1 n.op)) (jw cs k))||((qs1 n.op==8||qs1 n.op==9)&&(jw cs (n.ins.getD 0 0) != jw cs (n.ins.getD 1 0)&&jw cs (n.ins.getD 0 0) != 0&&jw cs (n.ins.getD 1 0) != 0))
def kw:List Int->List RN->Sum Int (List Int)
 | cs,[]=>.inr cs
 | cs,n::t=>if qkz cs n=ui then .inl n.at' else kw (cs++[hsc (qs1 n.op)]) t
theorem yW(cs:List Int)(l k:List RN):kw cs (l++k)=match kw cs l with
  | .inl q=>.inl q
  | .inr cs'=>kw cs' k:=by
 induction l generalizing cs with
 | nil=>rfl
 | cons n t ih=>
  rw[di,kw,kw]
  split
  rfl;exact ih _
def CEnd(cs:List Int)(l:List RN):CRes->Prop
 | .ok c=>∃ds,kw cs l=.inr (cs++ds)/\A ds=A l/\ds.getD (A l - 1) 0=cc c
 | .err q=>kw cs l=.inl q
theorem qac(t:Ast):∀c,qC t=.ok c->0<=c/\c<=3:=by
 intro c h;rw[kn]at h;generalize (qw t).map qC=rs at h;generalize (qZ t).U=pl at h
 have hd:∀w1 c1,0<=c1/\c1<=3->xq w1 pl c1 rs=.ok c->0<=c/\c<=3:=by
  grind[xq]
 unfold qR at h
 split at h
 .grind
 split at h
 .grind
 split at h
 .grind
 split at h
 .grind
 split at h
 .grind
 split at h
 .grind
 split at h
 .split at h
  rename_i a b;unfold xp at h
  split at h
  cases h;cases h
  grind
  grind
 all_goals grind
theorem vq8(ds:List Int)(f:kw cs l=.inr (cs++ds))(e:A ds=A l)(d:ds.getD (A l - 1) 0=cc c):CEnd cs l (.ok c):=⟨ds,f,e,d⟩
theorem kJ{ds:List Int}(h:kw cs l=.inr (cs++ds))(n:RN):kw cs (l++[n])=if qkz (cs++ds) n=ui then .inl n.at' else .inr (cs++(ds++[hsc (qs1 n.op)])):=by
 grind[yW,kw]
theorem qvt{ds es:List Int}(h:A cs<=k)(d:k<A cs+A ds):jw (cs++ds++es) k=ds.getD (k - A cs) 0:=by
 grind[jw]
section
variable {p:Pay} {cs:List Int}
theorem vcx{x:Int}(h:p.op=x)(d:0<=x)(e:x<=23):qs1 (jR p ins neg).op=x:=by
 show qs1 (qJ p.op)=x
 grind[qb6]
theorem vhp(off:Nat)(h:0<=p.op/\p.op<=4)(_:A cs=off):CEnd cs [jR p [] uh] (qC (.leaf p)):=by
 have ho:p.op=0\/p.op=1\/p.op=2\/p.op=3\/p.op=4:=uq
 have key:∀x c,p.op=x->0<=x->x<=4->qR x p.U []=.ok c->hsc x=cc c->CEnd cs [jR p [] uh] (qC (.leaf p)):=by
  intro x c d e v q f;rw[show qC (.leaf p)=.ok c by show qR p.op p.U []=_;rw[d];exact q];refine vq8 [hsc x] ?_ rfl (by simpa using f);rw[kw,vcx d e uq,ak,kw];unfold qkz;rw[vcx d e uq]
  have u:(x==8||x==9)=uh:=by
   rw[ir];exact⟨aw.2 uq,aw.2 uq⟩
  rw[u];show ¬((([]:List Nat).any _||_)=ui);simp
 obtain h|h|h|h|h:=ho;exact key 0 0 h uu uu rfl rfl;exact key 1 1 h uu uu rfl rfl;exact key 2 2 h uu uu rfl rfl;exact key 3 3 h uu uu rfl rfl;exact key 4 3 h uu uu rfl rfl
end
theorem c4(h:0<=c/\c<=3):c=0\/c=1\/c=2\/c=3:=uq
theorem vxy(ho:o=5\/o=14\/o=15\/o=21\/o=22\/o=23)(pl:Int)(d:0<=c/\c<=3):∃c',hsc o=cc c'/\qR o pl [.ok c]=if jz (wnt o) (cc c)=ui then .err pl else .ok c':=by
 obtain rfl|rfl|rfl|rfl|rfl|rfl:=ho<;>obtain rfl|rfl|rfl|rfl:=c4 d<;>first
  | exact⟨3,uu,rfl⟩
  | exact⟨1,uu,rfl⟩
theorem vxp(ho:o=5\/o=14\/o=15)(pl q:Int):qR o pl [.err q]=.err q:=by obtain rfl|rfl|rfl:=ho<;>rfl
theorem vxz(ho:6<=o/\o<=13\/16<=o/\o<=19)(pl:Int){b:Int}(d:0<=a/\a<=3)(hb:0<=b/\b<=3):∃c',hsc o=cc c'/\qR o pl [.ok a,.ok b]=if(jz (wnt o) (cc a)||(jz (wnt o) (cc b)||false)||((o==8||o==9)&&(cc a != cc b&&cc a != 0&&cc b != 0)))=ui then .err pl else .ok c':=by
 have h:o=6\/o=7\/o=8\/o=9\/o=10\/o=11\/o=12\/o=13\/o=16\/o=17\/o=18\/o=19:=uq;obtain rfl|rfl|rfl|rfl|rfl|rfl|rfl|rfl|rfl|rfl|rfl|rfl:=h<;>obtain rfl|rfl|rfl|rfl:=c4 d<;>obtain rfl|rfl|rfl|rfl:=c4 hb<;>first
  | exact⟨3,uu,rfl⟩
  | exact⟨1,uu,rfl⟩
theorem vxg(ho:6<=o/\o<=13\/16<=o/\o<=19)(pl q:Int):(∀r,qR o pl [.err q,r]=.err q)/\∀a,qR o pl [.ok a,.err q]=.err q:=by
 have h:o=6\/o=7\/o=8\/o=9\/o=10\/o=11\/o=12\/o=13\/o=16\/o=17\/o=18\/o=19:=uq;obtain rfl|rfl|rfl|rfl|rfl|rfl|rfl|rfl|rfl|rfl|rfl|rfl:=h<;>exact⟨λr=>rfl,λa=>rfl⟩
theorem vy0(pl:Int){b:Int}(e:0<=a/\a<=3)(hb:0<=b/\b<=3)(d:0<=c/\c<=3):qR 20 pl [.ok a,.ok b,.ok c]=if(jz 2 (cc a)||(jz 2 (cc b)||(jz 2 (cc c)||false)))=ui then .err pl else .ok 3:=by
 obtain rfl|rfl|rfl|rfl:=c4 e<;>obtain rfl|rfl|rfl|rfl:=c4 hb<;>obtain rfl|rfl|rfl|rfl:=c4 d<;>rfl
theorem CEnd.err{q:Int}(h:CEnd cs l (.err q))(k:List RN):kw cs (l++k)=.inl q:=by
 grind[yW,CEnd]
theorem vbr(l:List Int)(v:Int):(l++[v]).getD (A l) 0=v:=ur
theorem vak{x:Ast}(K:A cs=off)(C:0<A l)(ho:p.op=5\/p.op=14\/p.op=15\/p.op=21\/p.op=22\/p.op=23)(d:CEnd cs l (qC x))(I:p.op=21\/p.op=22\/p.op=23->∃c,qC x=.ok c):
  CEnd cs (l++[jR p [off+A l - 1] neg]) (qC (.un p x)):=by
 show CEnd cs _ (qR p.op p.U [qC x])
 cases hc:qC x with
 | err q =>grind[vxp,CEnd.err,CEnd]
 | ok c=>
  rw[hc]at d;obtain⟨ds,v,G,F⟩:=d;have e:=qac x c hc;obtain⟨J,D,u⟩:=vxy ho p.U e;have f:qs1 (jR p [off+A l - 1] neg).op=p.op:=vcx rfl uq uq
  have B:jw (cs++ds) (off+A l - 1)=cc c:=by
   have:=qvt (cs:=cs) (ds:=ds) (es:=[]) (k:=off+A l - 1) uq uq;rw[gs]at this;rwa[this,show off+A l - 1 - A cs=A l - 1 by omega]
  have hb:qkz (cs++ds) (jR p [off+A l - 1] neg)=jz (wnt p.op) (cc c):=by
   unfold qkz;rw[f]
   have z:(p.op==8||p.op==9)=uh:=by
    grind
   rw[z,rh,nj];show([off+A l - 1].any λk=>jz (wnt p.op) (jw (cs++ds) k))=_;simp only[List.any_cons,List.any_nil,nj,B]
  rw[u]
  split
  .rename_i hm
   show kw cs _=.inl _;rw[kJ v,bs (by rw[hb];exact hm)];rfl
  grind[kJ,CEnd]
theorem vhn{x y:Ast}{k:List RN}(Q:A cs=off)(I:0<A l)(O:0<A k)(ho:6<=p.op/\p.op<=13\/16<=p.op/\p.op<=19)(e:CEnd cs l (qC x))(d:∀ds:List Int,A ds=A l->CEnd (cs++ds) k (qC y)):
  CEnd cs (l++k++[jR p [off+A l - 1,off+A l+A k - 1] uh]) (qC (.bin p x y)):=by
 show CEnd cs _ (qR p.op p.U [qC x,qC y])
 cases hc:qC x with
 | err q=>
  rw[hc]at e;rw[(vxg ho p.U q).1];rw[bw];exact e.err _
 | ok a=>
  rw[hc]at e;obtain⟨ds,C,u,K⟩:=e;have d:=d ds u
  cases hd:qC y with
  | err q=>
   rw[hd]at d;rw[(vxg ho p.U q).2];show kw cs _=.inl q;rw[bw,yW,C];exact d.err _
  | ok b=>
   rw[hd]at d;obtain⟨es,M,D,L⟩:=d;have F:kw cs (l++k)=.inr (cs++(ds++es)):=by grind[yW]
   obtain⟨P,J,z⟩:=vxz ho p.U (qac x a hc) (qac y b hd);have v:qs1 (jR p [off+A l - 1,off+A l+A k - 1] uh).op=p.op:=vcx rfl uq uq
   have B:jw (cs++(ds++es)) (off+A l - 1)=cc a:=by
    rwa[<-bw,qvt uq uq,show off+A l - 1 - A cs=A l - 1 by omega]
   have G:jw (cs++(ds++es)) (off+A l+A k - 1)=cc b:=by
    have:=qvt (cs:=cs++ds) (ds:=es) (es:=[]) (k:=off+A l+A k - 1) ut ut;rw[gs]at this;rwa[<-bw,this,show off+A l+A k - 1 - A (cs++ds)=A k - 1 by simp;omega]
   have hb:qkz (cs++(ds++es)) (jR p [off+A l - 1,off+A l+A k - 1] uh)=(jz (wnt p.op) (cc a)||(jz (wnt p.op) (cc b)||false)||((p.op==8||p.op==9)&&(cc a != cc b&&cc a != 0&&cc b != 0))):=by
    unfold qkz;rw[v,<-B,<-G];rfl
   rw[z]
   split
   .rename_i f
    show kw cs _=.inl _;rw[kJ F,bs (by rw[hb];exact f)];rfl
   rename_i f;refine⟨ds++es++[hsc p.op], ?_,by simp[u,D], ?_⟩
   grind[kJ]
   grind
theorem qtr{x y z:Ast}{k r:List RN}(Z:A cs=off)(O:0<A l)(X:0<A k)(Y:0<A r)(ho:p.op=20)(u:CEnd cs l (qC x))(f:∀ds:List Int,A ds=A l->CEnd (cs++ds) k (qC y))(e:∀ds:List Int,A ds=A l+A k->CEnd (cs++ds) r (qC z)):
  CEnd cs (l++k++r++[jR p [off+A l - 1,off+A l+A k - 1,off+A l+A k+A r - 1] neg]) (qC (.tri p x y z)):=by
 show CEnd cs _ (qR p.op p.U [qC x,qC y,qC z]);rw[ho]
 cases hc:qC x with
 | err q=>
  rw[hc]at u;rw[bw,bw];exact u.err _
 | ok a=>
  rw[hc]at u;obtain⟨ds,G,v,P⟩:=u;have f:=f ds v
  cases hd:qC y with
  | err q=>
   rw[hd]at f;show kw cs _=.inl q;rw[bw,bw,yW,G];exact f.err _
  | ok b=>
   rw[hd]at f;obtain⟨es,R,C,Q⟩:=f;have J:kw cs (l++k)=.inr (cs++(ds++es)):=by grind[yW]
   have e:=e (ds++es) (by simp[v,C])
   cases hf:qC z with
   | err q=>
    rw[hf]at e;show kw cs _=.inl q;rw[bw,yW,J];exact e.err _
   | ok c=>
    rw[hf]at e;obtain⟨d,U,I,T⟩:=e;have M:kw cs (l++k++r)=.inr (cs++(ds++es++d)):=by grind[yW]
    have D:qs1 (jR p [off+A l - 1,off+A l+A k - 1,off+A l+A k+A r - 1] neg).op=20:=vcx ho uu uu
    have F:jw (cs++(ds++es++d)) (off+A l - 1)=cc a:=by
     rwa[bw ds,<-bw cs,qvt uq uq,show off+A l - 1 - A cs=A l - 1 by omega]
    have L:jw (cs++(ds++es++d)) (off+A l+A k - 1)=cc b:=by
     rwa[bw ds,<-bw cs,<-bw (cs++ds),qvt ut ut,show off+A l+A k - 1 - A (cs++ds)=A k - 1 by simp;omega]
    have K:jw (cs++(ds++es++d)) (off+A l+A k+A r - 1)=cc c:=by
     have:=qvt (cs:=cs++(ds++es)) (ds:=d) (es:=[]) (k:=off+A l+A k+A r - 1) ut ut;rw[gs]at this;rwa[<-bw cs,this,show off+A l+A k+A r - 1 - A (cs++(ds++es))=A r - 1 by simp;omega]
    have hb:qkz (cs++(ds++es++d)) (jR p [off+A l - 1,off+A l+A k - 1,off+A l+A k+A r - 1] neg)=(jz 2 (cc a)||(jz 2 (cc b)||(jz 2 (cc c)||false))):=by
     unfold qkz;rw[D,<-F,<-L,<-K];rw[show(((20:Int)==8)||((20:Int)==9))=uh from rfl,rh,nj];rfl
    rw[vy0 p.U (qac x a hc) (qac y b hd) (qac z c hf)]
    split
    .rename_i B
     show kw cs _=.inl _;rw[kJ M,bs (by rw[hb];exact B)];rfl
    rename_i B;refine⟨ds++es++d++[hsc 20], ?_,by simp[v,C,I], ?_⟩
    grind[kJ]
    rw[show (A (l++k++r++[jR p [off+A l - 1,off+A l+A k - 1,off+A l+A k+A r - 1] neg])) - 1=A (ds++es++d) by grind,vbr];decide
theorem vai{x:Ast}(h:∀c,qC x=.ok c->c=3):qC (.un ⟨5,pl,0,[],[],[]⟩ x)=qC x:=by
 show qR 5 pl [qC x]=_
 cases hx:qC x with
 | err q=>rfl
 | ok c=>rw[h c hx];rfl
theorem qrw{x:Ast}(h:ShA x)(d:opA x=0):qC x=.ok 0:=by
 cases x with
 | leaf p=>show qR p.op p.U []=_;rw[show p.op=0 from d];rfl
 | un p x=>exact absurd h.1 (by have:p.op=0:=d;omega)
 | bin p x y=>exact absurd h.1 (by have:p.op=0:=d;omega)
 | tri p x y z=>exact absurd h.1 (by have:p.op=0:=d;omega)
theorem vho:∀{t:Ast} {off:Nat} {l:List RN},Flat t off l->ShA t->∀cs:List Int,A cs=off->CEnd cs l (qC t):=by
 intro t off l h
 induction h with
 | leaf p off=>intro d cs f;exact vhp off d f
 | un p hx ih =>grind[vak,Flat.pos,qrw,ShA]
 | bin p hx hy ihx ihy =>grind[vhn,Flat.pos,ShA]
 | tri p hx hy hz ihx ihy ihz =>grind[qtr,Flat.pos,ShA]
 | neg1 pl q hq hx ih=>
  intro d cs f;obtain⟨_,_,_,d⟩:=d;have u:q.op=21\/q.op=22\/q.op=23:=hq
  rw[vai (λc e=>by
   have:qR q.op q.U [qC _]=.ok c:=e
   obtain e|e|e:=u<;>rw[e]at this<;>(injection this with this;exact this.symm))]
  exact vak f hx.pos d.1 (ih d.2.2.2 cs f) (λe=>⟨0,qrw d.2.2.2 (d.2.2.1 e)⟩)
 | neg3 pl q hq hx hy hz ihx ihy ihz =>grind[vai,qR,qC,xq,qtr,Flat.pos,ShA]
theorem NodesAt.cells(h:NodesAt w rb (C (G (D g 0 O)) LN cap) ns){n:RN}(d:ns[i]?=G n):
  LN=A ns/\∃iv lv,RowOf w rb 3 iv (qau n.ins)/\RowOf w rb 9 lv (qx n.i)/\∀k,k<9->w.cell? ⟨g,i * 9+k,O⟩=(pt n iv lv)[k]?:=by
 obtain⟨rs,F,ho,q⟩:=h;have J:=(aj.1 d).1
 have u:LN=A ns:=by
  obtain⟨_,z|⟨I,cap',cur,e,_⟩⟩:=ho;cases z.1
  grind
 subst u;obtain⟨r,f⟩:∃r,rs[i]?=G r:=⟨rs[i],ag uq⟩;have v:(ns.zip rs)[i]?=G (n,r):=by grind
 refine⟨rfl,r.1,r.2,(q i n r d f).1,(q i n r d f).2,λk B=>?_⟩;rw[ho.cellAt (i * 9+k) uq];exact vuj (λx:RN×(Ap×Ap)=>pt x.1 x.2.1 x.2.2) (λa=>rfl) (ns.zip rs) i (n,r) v k B
theorem RowOf.get{ty:TypeId}{v:Ap}{vs:List Ap}(h:RowOf w rb ty v vs){u:Ap}(d:vs[k]?=G u):∃q cap,v=C (G (D q 0 O)) (A vs) cap/\Xc w q k u:=by
 grind[World.cell?,RowOf]
theorem qu4{α:Type}(f:α->List Ap)(e:∀a,A (f a)=9)(v:Ap):∀(l:List α) (i:Nat) (a d:α),l[i]?=G a->f d=(f a).set 8 v->(l.set i d).flatMap f=(l.flatMap f).set (i * 9+8) v:=by
 intro l
 induction l with
 | nil=>grind
 | cons b l ih=>
  intro i a d h q
  cases i with
  | zero =>grind
  | succ i =>grind
theorem NodesAt.setCls(h:NodesAt w rb (C (G (D g 0 O)) LN cap) ns)(c0:Xc w rb 0 (C (G (D g 0 O)) LN cap)){n:RN}(L:ns[i]?=G n)(c:Int):
  NodesAt (B w ⟨g,i * 9+8,O⟩ (I J c)) rb (C (G (D g 0 O)) LN cap) (ns.set i { n with u:=c })/\TKept rb w (B w ⟨g,i * 9+8,O⟩ (I J c))/\(B w ⟨g,i * 9+8,O⟩ (I J c)).1[rb]?=w.1[rb]?/\Xf w g:=by
 obtain⟨rs,K,ho,hn⟩:=h;have A1:=(aj.1 L).1;have bK:qat w rb g:=.inr ⟨_,c0,rfl⟩;have M:=ho.lt g rfl;have z:g≠rb:=uq;have hb:(B w ⟨g,i * 9+8,O⟩ (I J c)).1[rb]?=w.1[rb]?:=bi w ⟨g,i * 9+8,O⟩ _ rb (λe=>z e.symm)
 have P:TKept rb w (B w ⟨g,i * 9+8,O⟩ (I J c)):=by
  refine⟨rfl,rfl,rfl,ur,λk _ I6=>bi w ⟨g,i * 9+8,O⟩ _ k (λe=>I6 (by grind)),λk _ f=>(qs5 w z (i * 9+8) _ k).1 f⟩
 obtain⟨cG,F|⟨g',cap',cur,e,Z,A,U,T,R,Q⟩⟩:=ho
 .cases F.1
 injection e with d Y X;injection d with d;injection d with d;subst d Y X;have q:(ns.zip rs)[i]?=G (n,rs[i]'uq):=by grind
 have v:((ns.set i { n with u:=c }).zip rs)=(ns.zip rs).set i ({ n with u:=c },rs[i]'uq):=by
  apply lh;intro k;rw[ii,List.zip_eq_zipWith,List.zip_eq_zipWith,List.getElem?_zipWith,List.getElem?_zipWith,ii]
  by_cases f:i=k
  grind
  simp[f]
 refine⟨⟨rs,by simp[K],⟨?_,.inr ⟨g,cap,cur.setIfInBounds (i * 9+8) (I J c),ur,Z,qao A _ _,by simpa using U,T,by simpa using R, ?_⟩⟩,λj m r hj hr=>?_⟩,P,hb,λj=>(kS A).2 j⟩;rwa[v,qu4 (λx:RN×(Ap×Ap)=>pt x.1 x.2.1 x.2.2) (λa=>rfl) (I J c) (ns.zip rs) i _ _ q rfl,fm,fm];rw[v,qu4 (λx:RN×(Ap×Ap)=>pt x.1 x.2.1 x.2.2) (λa=>rfl) (I J c) (ns.zip rs) i _ _ q rfl,fm,<-Q,Array.toList_setIfInBounds,List.take_set]
 grind[RowOf.P]
def xk(ns:List RN)(cs:List Int):List RN:=(ns.zipIdx).map λx=>{ x.1 with u:=if x.2<A cs then cs.getD x.2 0 else x.1.u }
theorem qps(ns:List RN):xk ns []=ns:=by
 simp[xk]
theorem ke:(xk ns cs)[i]?=(ns[i]?).map λn=>{ n with u:=if i<A cs then cs.getD i 0 else n.u }:=by
 grind[xk]
theorem qgk(ns:List RN)(cs:List Int):A (xk ns cs)=A ns:=by unfold xk;simp
theorem qz1{n:RN}(h:ns[A cs]?=G n)(c:Int):(xk ns cs).set (A cs) { n with u:=c }=xk ns (cs++[c]):=by
 apply lh
 grind[ke,qgk]
structure NF(i:Nat)(n:RN)(o:Int):Prop where
 o0:0<=o
 o23:o<=23
 op:n.op=qJ o
 ins:∀k∈n.ins,k<i
 two:o=8\/o=9->∃a b,n.ins=[a,b]
 few:A n.ins<=3
def qh9(R:Sum Int (List Int))(top:Nat):Int×Int:=match R with
 | .inl q=>(4,q)
 | .inr cs=>if cs.getD top 0≠0/\cs.getD top 0≠1 then(4,0) else(0,0)
theorem qg3{n:RN}(h:ns[A cs]?=G n):kw cs (ns.drop (A cs))=if qkz cs n=ui then .inl n.at' else kw (cs++[hsc (qs1 n.op)]) (ns.drop (A cs+1)):=by
 grind[List.drop_eq_getElem_cons,kw]
theorem vi3(o:Int)(d:0<=o)(e:o<=23):((BS (qJ o)).toList==[61])=(o==8)/\((BS (qJ o)).toList==[60,62])=(o==9):=by
 rw[qP];have:∀i:Fin 24,(qJ (i.val:Int)==[61])=((i.val:Int)==8)/\(qJ (i.val:Int)==[60,62])=((i.val:Int)==9):=by decide +kernel
 have:=this ⟨o.toNat,uq⟩
 grind
structure ClW(w:Ao)(rb g LN cap:Nat)(ns:List RN)(cs:List Int)(wr:Ao):Prop where
 c0:wr.cell? ⟨rb,0,O⟩=G (C (G ⟨g,0,O⟩) LN cap)
 nodes:NodesAt wr rb (C (G ⟨g,0,O⟩) LN cap) (xk ns cs)
 P:TKept rb w wr
 lt:rb<wr.1.size
theorem ClW.h{d:Ao}(h:ClW w rb g LN cap ns cs wr)(hb:Xb wr d):ClW w rb g LN cap ns cs d:=
 ⟨((qi hb).1 _ _ h.lt).trans h.c0,h.nodes.h h.lt hb,h.P.trans (TKept.x hb h.lt),au h.lt hb.size⟩
theorem ClW.u(h:ClW w rb g LN cap ns cs wr)(q:k<A cs)(f:A cs<=A ns):wr.cell? ⟨g,k * 9+8,O⟩=G (I J (jw cs k)):=by
 have d:(xk ns cs)[k]?=G { ns[k]'uq with u:=cs.getD k 0 }:=by
  grind[ke]
 obtain⟨_,iv,lv,_,_,e⟩:=h.nodes.cells d;rw[e 8 uq];rfl
theorem ClW.set(h:ClW w rb g LN cap ns cs wr){n:RN}(d:ns[A cs]?=G n)(c:Int):ClW w rb g LN cap ns (cs++[c]) (B wr ⟨g,A cs * 9+8,O⟩ (I J c))/\TKept rb wr (B wr ⟨g,A cs * 9+8,O⟩ (I J c))/\g<Z wr.1/\Xf wr g:=by
 have f:(xk ns cs)[A cs]?=G n:=by rw[ke,d];simp
 obtain⟨e,z,v,u⟩:=h.nodes.setCls h.c0 f c;rw[qz1 d]at e;have q:g<Z wr.1:=by obtain⟨rs,_,ho,_⟩:=h.nodes;exact(ho.lt g rfl).2
 grind[World.cell?_of_block,ClW,TKept]
theorem qq8{n:RN}(d:NF i n o):qkz cs n=((n.ins.any λk=>jz (wnt o) (jw cs k))||((o==8||o==9)&&(jw cs (n.ins.getD 0 0) != jw cs (n.ins.getD 1 0)&&jw cs (n.ins.getD 0 0) != 0&&jw cs (n.ins.getD 1 0) != 0))):=by
 grind[qkz,qb6,NF]
def vpn(rb:Nat)(w:Ao)(ns:List RN)(er pl:Int)(e:Ending)(w':Ao):Prop:=
 e=Ak (Aj #[I J er,I J pl])/\TKept rb w w'/\∃g LN cap cs,ClW w rb g LN cap ns cs w'
theorem qd5(h0:ClW w rb g LN cap ns [] w)(hne:0<A ns)(A6:A ns<=1000)(hf:∀i n,ns[i]?=G n->∃o,NF i n o):
  uo 95 #[Ag (G (D rb 0 O)),I J ((A ns - 1:Nat):Int)] w (vpn rb w ns (qh9 (kw [] ns) (A ns - 1)).1 (qh9 (kw [] ns) (A ns - 1)).2):=by
 obtain⟨R,hR⟩:=ie (kw [] ns);rw[hR];have HR:=qd hR
 have lF:LN=A ns:=by
  obtain⟨rs,_,ho,_⟩:=h0.nodes;rw[qps]at ho;obtain⟨_,hx|⟨g',cap',cur,e,_⟩⟩:=ho;cases hx.1;injection e with _ e2 _
 obtain⟨Q,BQ⟩:∃t:Nat,A ns - 1=t:=⟨_,rfl⟩;rw[BQ];have U0:Q<LN:=uq;have H0:=qd h0;have HF:=qd hf;have cJ:=qd lF;have LQ:=qd A6;clear h0 hR hf lF BQ A6 hne;go_enter func95,ntmps95
 go_wp2
 go_loopw [6] (λi wr=>∃cs:List Int,A cs<=LN/\i=I J (A cs:Int)/\Hid (R=kw cs (ns.drop (A cs)))/\Hid (ClW w rb g LN cap ns cs wr)) (λi _=>LN - (intOf i).toNat)
 exact⟨[],bt _,rfl,qd (by rw[im,ee,q9 HR]),H0⟩;obtain⟨cs,M5,rfl,IU,L⟩:=hrel;obtain⟨i,hi⟩:=ie (A cs);have d:=qd hi;rw[hi]at M5 IU |-;clear hi;have c0:=(q9 L).c0;have A1:=(q9 L).lt;have NR:=q9 LQ;have hLNe:=q9 cJ;have ZV:LN<=1000:=uq;clear NR hLNe
 by_cases aK:i<LN
 .have YS:=je i LN
  have U4:=it i;obtain⟨n,hn⟩:∃n,ns[A cs]?=G n:=⟨_,ag (by have:=q9 d;have:=q9 cJ;omega)⟩;obtain⟨o,iJ⟩:=q9 HF _ n hn;have cM:(xk ns cs)[A cs]?=G n:=by rw[ke,hn];simp
  obtain⟨AF,iv,lv,dJ,cF,K⟩:=(q9 L).nodes.cells cM;clear AF;rw[q9 d]at K;have e0:wr.cell? ⟨g,i * 9,O⟩=G (Y (BS (qJ o))):=by have:=K 0 uq;rw[Nat.add_zero]at this;rw[<-iJ.op];exact this
  have e1:wr.cell? ⟨g,i * 9+1,O⟩=G (I J n.at'):=K 1 uq;have e2:wr.cell? ⟨g,i * 9+2,O⟩=G iv:=K 2 uq;have e3:wr.cell? ⟨g,i * 9+3,O⟩=G (Y (BS n.str)):=K 3 uq;have e4:wr.cell? ⟨g,i * 9+4,O⟩=G (Y (BS n.esc)):=K 4 uq;have e5:wr.cell? ⟨g,i * 9+5,O⟩=G lv:=K 5 uq;have e6:wr.cell? ⟨g,i * 9+6,O⟩=G (I J n.M):=K 6 uq;have e7:wr.cell? ⟨g,i * 9+7,O⟩=G (Ah n.neg):=K 7 uq;have e8:wr.cell? ⟨g,i * 9+8,O⟩=G (I J n.u):=K 8 uq;obtain⟨hS,VE,oF,hgz⟩:=(q9 L).set hn (hsc o);rw[q9 d]at hS VE;obtain⟨M,dF⟩:=ie (wnt o);obtain⟨f,UL⟩:=ie (hsc o);have HWN:Hid (∀w,uo 131 #[Y (BS (qJ o))] w λe w'=>e=Ak (Aj #[I J M,I J f])/\w'=w):=qd λw=>by rw[<-dF,<-UL];exact qsv o iJ.o0 iJ.o23 w
  rw[UL]at hS VE;have HS:=qd hS;have SH:=qd (dJ.P VE);obtain⟨w8,TY⟩:=vi3 o iJ.o0 iJ.o23;have F:=qd iJ;have HN:=qd hn;have HWT:=qd dF;have HHS:=qd UL;obtain⟨ia,ic,rfl⟩:=dJ.form;obtain⟨la,lc,rfl⟩:=cF.form;have nr:¬rb=Z wr.1:=uq;have ng:¬g=Z wr.1:=uq;obtain⟨z,sH⟩:=ie (A (qau n.ins));obtain⟨lT,sG⟩:=ie (A (qx n.i));rw[sH]at e2 SH;rw[sG]at e5;have nE:Hid (A n.ins=z):=qd (by rw[<-sH];simp[qau]);have tW:=qd e1;obtain⟨W,hW⟩:=il ((B wr ⟨g,i * 9+8,O⟩ (I J f)).alloc (Al #[Y (BS (qJ o)),I J n.at',C ia z ic,Y (BS n.str),Y (BS n.esc),C la lT lc,I J n.M,Ah n.neg,I J n.u] 178):Ao);have rH:Below (Z (B wr ⟨g,i * 9+8,O⟩ (I J f)).1) (B wr ⟨g,i * 9+8,O⟩ (I J f)) W:=hW ▸ uy.alloc ux _
  have DQ:=qd (HS.h rH);have HIW:=qd (SH.P (TKept.x rH HS.lt));have iL:∀k,W.cell? ⟨Z wr.1,k,O⟩=#[Y (BS (qJ o)),I J n.at',C ia z ic,Y (BS n.str),Y (BS n.esc),C la lT lc,I J n.M,Ah n.neg,I J n.u][k]?:=λk=>by rw[hW,ce _ _ _ _ ur]
  have rG:Z W.1=Z wr.1+1:=by rw[hW];simp
  have HW:=qd hW;have IP:=qd rG;have bF:=qd iL;clear hn iJ cM dJ cF K hS VE dF UL sH sG rH iL hW rG
  go_wp2_with(go_at_call 131;refine be (HWN _) λw1 eT=>?_;subst w1)
  rw[<-q9 HW];clear e0 e1 e2 e3 e4 e5 e6 e7 e8;obtain⟨wo,rfl⟩:=il (wr:Ao)
  go_loopw [10] (λk wq=>∃m:Nat,m<=z/\k=I J m/\Hid (∀j q,j<m->n.ins[j]?=G q->jz M (jw cs q)=uh)/\Hid (Xb W wq)) (λk _=>z - (intOf k).toNat)
  exact⟨0,bt _,rfl,qd (λj q hj=>absurd hj uq),qd uy⟩;obtain⟨m,hm,rfl,HM,BM⟩:=hrel;obtain⟨Q6,sP⟩:=qi BM;have PF:=(q9 DQ).h BM;have d0:wr.cell? (D rb 0 O)=G (C (G (D g 0 O)) LN cap):=PF.c0;have XA:=(q9 BM).size;have f0:wr.cell? ⟨Z wo.1,0,O⟩=G (Y (BS (qJ o))):=(Q6 _ 0 (md (q9 IP))).trans (bF 0);have f1:wr.cell? ⟨Z wo.1,1,O⟩=G (I J n.at'):=(Q6 _ 1 (md (q9 IP))).trans (bF 1);have f2:wr.cell? ⟨Z wo.1,2,O⟩=G (C ia z ic):=(Q6 _ 2 (md (q9 IP))).trans (bF 2);have LA:=(q9 HIW).P (TKept.x BM DQ.lt);have LY:=qd PF;have hl3:z<=3:=by have:=q9 nE;have:=(q9 F).few;omega
  by_cases fO:m<z
  .obtain⟨q,hq⟩:∃q,n.ins[m]?=G q:=⟨_,ag (md (q9 nE))⟩
   have XW:q<i:=by have:=(q9 F).ins q (bh hq);rwa [q9 d]at this
   obtain⟨q0,ca,FY,NA⟩:=LA.get (k:=m) (u:=I J (q:Int)) (by simp[qau,hq]);injection FY with FY D8 S4;clear D8 S4;subst FY;have M5:=PF.u (k:=q) (by simp;have:=q9 d;omega) (by simp;have:=q9 d;have:=q9 cJ;omega);rw[show jw (cs++[f]) q=jw cs q by unfold jw;rw[aq,aq,cg (md (q9 d))]]at M5;obtain⟨c,U⟩:=ie (jw cs q);rw[U]at M5
   have lL:Hid (jz M c=uh->∀j r,j<m+1->n.ins[j]?=G r->jz M (jw cs r)=uh):=qd λhf j r hj hr=>by
    by_cases KH:j=m
    subst KH;rw[hq]at hr;injection hr with hr;subst hr;rwa[U];exact q9 HM j r uq hr
   have HE:Hid (jz M c=ui->qh9 R Q=(4,n.at')):=qd λhf=>by
    have hb:qkz cs n=ui:=by
     rw[qq8 (q9 F),fh]
     left
     rw[nh];exact⟨q,bh hq,by rwa[q9 HWT,U]⟩
    rw[q9 IU,<-q9 d,qg3 (q9 HN),bs hb];rfl
   have FN:=it m;have oA:=je m z;have ND:=it q;have fY:=je q LN;clear hq U Q6 sP PF LA HM DQ HIW IU HN
   by_cases hw:0<=M
   .by_cases bW:c=0
    .subst bW
     go_wp2
     go_quiet (fail)
     go_wp2
     go_roundw
     case rel=>exact⟨m+1,uq,by go_num,qd (lL (by unfold jz;simp)),qd (eg BM _)⟩
     simp[intOf];omega
    by_cases dK:c=M
    .have b1:(c != 0)=ui:=by simpa using bW
     have b2:(c != M)=uh:=by rw[dK];simp
     go_wp2
     go_quiet (fail)
     go_wp2
     go_roundw
     case rel=>exact⟨m+1,uq,by go_num,qd (lL (by unfold jz;rw[b2];simp)),qd (eg BM _)⟩
     simp[intOf];omega
    have b1:(c != 0)=ui:=by simpa using bW
    have b2:(c != M)=ui:=by simpa using dK
    have tT:=qd (HE (by unfold jz;rw[b1,b2,de hw];rfl));clear HE lL
    go_wp2
    go_quiet (fail)
    go_wp2
    go_quiet (fail)
    go_wp2
    have PI:=λa b=>LY.h (eg (eg (Below.refl (Z wr.1) wr) a) b)
    exact um ⟨by rw[q9 tT],(PI _ _).P,g,LN,cap,_,PI _ _⟩
   go_wp2
   go_quiet (fail)
   go_wp2
   go_roundw
   case rel=>exact⟨m+1,uq,by go_num,qd (lL (by unfold jz;rw[da uq];simp)),qd (eg BM _)⟩
   simp[intOf];omega
  have hml':=jl m z;have hmE:m=z:=uq
  have iW:Hid (∀q∈n.ins,jz M (jw cs q)=uh):=qd λq hq=>by
   obtain⟨j,hj⟩:=db hq;exact q9 HM j q (by have:=(aj.1 hj).1;have:=q9 nE;omega) hj
  have JO:Hid ((n.ins.any λk=>jz (wnt o) (jw cs k))=uh):=qd (by
   rw[List.any_eq_false];intro q hq
   rw[q9 HWT,q9 iW q hq];simp)
  have P:Hid (qkz cs n=uh->R=kw (cs++[f]) (ns.drop (A (cs++[f])))):=qd λhb=>by
   rw[q9 IU,<-q9 d,qg3 (q9 HN),ak (by rw[hb];simp),F.op,qb6 F.o0 F.o23,q9 HHS,cd];rfl
  have LX:Hid (qkz cs n=ui->qh9 R Q=(4,n.at')):=qd λhb=>by
   rw[q9 IU,<-q9 d,qg3 (q9 HN),bs hb];rfl
  have X:Hid (A (cs++[f])=i+1):=qd (by rw[cd,q9 d];rfl);clear Q6 sP PF HM DQ IU HN hmE
  by_cases h8:o=8\/o=9
  .obtain⟨a,b,Y7⟩:=(q9 F).two h8
   have CH:z=2:=by have:=q9 nE;rw[Y7]at this;exact this.symm
   have hai:a<i:=by have:=(q9 F).ins a (by rw[Y7];simp);rwa [q9 d]at this
   have hbi:b<i:=by have:=(q9 F).ins b (by rw[Y7];simp);rwa [q9 d]at this
   obtain⟨q0,ca,FY,XX⟩:=LA.get (k:=0) (u:=I J (a:Int)) (by simp[qau,Y7]);injection FY with FY D8 S4;clear D8 S4;subst FY;obtain⟨q1,cb,FX,hqb⟩:=LA.get (k:=1) (u:=I J (b:Int)) (by simp[qau,Y7]);injection FX with FX D8 S4;injection FX with FX;injection FX with FX;clear D8 S4;subst FX;have hka:=(q9 LY).u (k:=a) (by simp;have:=q9 d;omega) (by simp;have:=q9 d;have:=q9 cJ;omega);have aJ:=(q9 LY).u (k:=b) (by simp;have:=q9 d;omega) (by simp;have:=q9 d;have:=q9 cJ;omega)
   have hcut:∀q,q<i->jw (cs++[f]) q=jw cs q:=λq hq=>by
    unfold jw;rw[aq,aq,cg (md (q9 d))]
   rw[hcut a hai]at hka;rw[hcut b hbi]at aJ
   have wT:qkz cs n=(jw cs a != jw cs b&&jw cs a != 0&&jw cs b != 0):=by
    rw[qq8 (q9 F),q9 JO,oe,Y7];rw[show(o==8||o==9)=ui by obtain e|e:=h8<;>rw[e]<;>rfl,mf];rfl
   obtain⟨x,hx⟩:=ie (jw cs a);obtain⟨y,hy⟩:=ie (jw cs b);rw[hx]at hka wT;rw[hy]at aJ wT;have T:=qd wT;have OX:=it a;have A0:=it b;have wX:=je a LN;have A3:=je b LN;have PI:=λu=>LY.h (eg (Below.refl (Z wr.1) wr) u)
   have hz:((BS (qJ o)).toList==[61])=ui\/(((BS (qJ o)).toList==[61])=uh/\((BS (qJ o)).toList==[60,62])=ui):=by
    obtain e|e:=h8
    left;rw[w8,e];rfl
    right;exact⟨by rw[w8,e];rfl,by rw[TY,e];rfl⟩
   subst CH;have JH:=qd PI;have SR:=qd (λu v=>LY.h (eg (eg (Below.refl (Z wr.1) wr) u) v))
   have ON:(x != y)=uh\/((x != y)=ui/\(x != 0)=uh)\/((x != y)=ui/\(x != 0)=ui/\(y != 0)=uh)\/((x != y)=ui/\(x != 0)=ui/\(y != 0)=ui):=by
    cases (x != y)<;>cases (x != 0)<;>cases (y != 0)<;>simp
   clear hx hy wT hcut LA w8 TY Y7 JO iW PI h8;obtain x1|⟨x1,x2⟩|⟨x1,x2,x3⟩|⟨x1,x2,x3⟩:=ON
   .obtain z8|⟨z8,z9⟩:=hz
    all_goals
     have dZ:=qd (P (by rw[q9 T,x1];simp));clear P LX T
     go_wp2
     go_quiet (fail)
     go_wp2
     go_quiet (fail)
     go_wp2
     go_roundw
     case rel=>exact⟨cs++[f],by rw[q9 X];omega,by rw[q9 X];go_num,dZ,qd (JH _)⟩
     simp[intOf];omega
   .obtain z8|⟨z8,z9⟩:=hz
    all_goals
     have dZ:=qd (P (by rw[q9 T,x1,x2];simp));clear P LX T
     go_wp2
     go_quiet (fail)
     go_wp2
     go_quiet (fail)
     go_wp2
     go_roundw
     case rel=>exact⟨cs++[f],by rw[q9 X];omega,by rw[q9 X];go_num,dZ,qd (JH _)⟩
     simp[intOf];omega
   .obtain z8|⟨z8,z9⟩:=hz
    all_goals
     have dZ:=qd (P (by rw[q9 T,x1,x2,x3];simp));clear P LX T
     go_wp2
     go_quiet (fail)
     go_wp2
     go_quiet (fail)
     go_wp2
     go_roundw
     case rel=>exact⟨cs++[f],by rw[q9 X];omega,by rw[q9 X];go_num,dZ,qd (JH _)⟩
     simp[intOf];omega
   obtain z8|⟨z8,z9⟩:=hz
   all_goals
    have tT:=qd (LX (by rw[q9 T,x1,x2,x3];rfl));clear P LX T
    go_wp2
    go_quiet (fail)
    go_wp2
    go_quiet (fail)
    go_wp2
    go_quiet (fail)
    go_wp2
    exact um ⟨by rw[q9 tT],(SR _ _).P,g,LN,cap,_,q9 SR _ _⟩
  have y8:((BS (qJ o)).toList==[61])=uh:=by rw[w8,aw];omega
  have y9:((BS (qJ o)).toList==[60,62])=uh:=by rw[TY,aw];omega
  have hb:qkz cs n=uh:=by
   rw[qq8 (q9 F),q9 JO,oe,Bool.and_eq_false_iff]
   left
   rw[ir,aw,aw];omega
  have dZ:=qd (P hb);clear LA w8 TY hb P LX h8
  go_wp2
  go_roundw
  case rel=>exact⟨cs++[f],by rw[q9 X];omega,by rw[q9 X];go_num,dZ,LY⟩
  simp[intOf];omega
 have YS:=jl i LN;have hiL:i=LN:=uq;have EM:=it Q;have htl':=je Q LN;have ct:=(q9 L).u (k:=Q) (md (q9 d)) (by have:=q9 d;have:=q9 cJ;omega);obtain⟨c,U⟩:=ie (jw cs Q);rw[U]at ct
 have HE:Hid (qh9 R Q=if c≠0/\c≠1 then(4,0) else(0,0)):=qd (by
  rw[q9 IU,eo (md (q9 cJ)),<-U];rfl)
 clear U
 by_cases h1:c=0
 .go_wp2
  exact um ⟨by rw[q9 HE,ak uq],L.P,g,LN,cap,cs,q9 L⟩
 by_cases h2:c=1
 .go_wp2
  exact um ⟨by rw[q9 HE,ak uq],L.P,g,LN,cap,cs,q9 L⟩
 have b1:(c != 0)=ui:=by simpa using h1
 have b2:(c != 1)=ui:=by simpa using h2
 go_wp2
 exact um ⟨by rw[q9 HE,bs ⟨h1,h2⟩],L.P,g,LN,cap,cs,q9 L⟩
theorem qf6{n m:RN}(h:(l++[n])[i]?=G m):(i<A l/\l[i]?=G m)\/(i=A l/\n=m):=by
 grind
theorem qfl{k:List RN}{m:RN}(h:(l++k)[i]?=G m):(i<A l/\l[i]?=G m)\/(A l<=i/\k[i - A l]?=G m):=by
 grind
theorem qcg(h:0<=p.op)(q:p.op<=23)(e:∀k∈ins,k<i)(f:p.op=8\/p.op=9->∃a b,ins=[a,b])(d:A ins<=3):∃o,NF i (jR p ins neg) o:=⟨p.op,h,q,rfl,e,f,d⟩
theorem qje:∀{t:Ast} {off:Nat} {l:List RN},Flat t off l->ShA t->∀i n,l[i]?=G n->∃o,NF (off+i) n o:=by
 intro t off l h
 induction h with
 | leaf p off=>
  intro d i n e;obtain _|i:=i;obtain rfl:jR p [] uh=n:=by simpa using e
  exact qcg d.1 (md d.2) ur (md d.2) ur;simp at e
 | @un p x off l hx ih=>
  intro d i n e;have hp:=hx.pos;have ho:=d.1;obtain⟨u,f⟩|⟨rfl,rfl⟩:=qf6 e
  grind[ShA]
  exact qcg uq uq ut uq ur
 | @bin p x y off l k hx hy ihx ihy=>
  intro d i n e;have hq:=hy.pos;have ho:=d.1;obtain⟨u,f⟩|⟨rfl,rfl⟩:=qf6 e
  grind[qfl,ShA]
  exact qcg uq uq ut (λ_=>⟨_,_,rfl⟩) ur
 | @tri p x y z off l k r hx hy hz ihx ihy ihz=>
  intro d i n e;have hq:=hy.pos;have ho:=d.1;obtain⟨u,f⟩|⟨rfl,rfl⟩:=qf6 e
  grind[qfl,ShA]
  exact qcg uq uq ut uq ur
 | @neg1 pl q x off l hq hx ih=>
  intro d i n e;have hp:=hx.pos;obtain⟨_,_,_,d⟩:=d;obtain⟨u,f⟩|⟨rfl,rfl⟩:=qf6 e
  grind[ShA]
  exact qcg uq uq ut uq ur
 | @neg3 pl q x y z off l k r hq hx hy hz ihx ihy ihz=>
  intro d i n e;have v:=hz.pos;obtain⟨_,_,_,d⟩:=d;obtain⟨u,f⟩|⟨rfl,rfl⟩:=qf6 e
  grind[qfl,ShA]
  exact qcg uq uq ut uq ur
theorem qp9{s:uj}(h:(lvl s 12).E (qh s st0)=.ok t st):ShA t:=by
 obtain⟨L,u⟩:=qj8 _ (T s.data) ux;have v:Str s (qh s st0) L:=qgf u st0 (bt _) (ee);have z:=qH s st0 (bt _);have q:=(qsz s 12).E (qh s st0) ⟨L,0⟩ z v rfl;obtain⟨f,A,ts,e,d,_⟩|⟨en,pl,e,d⟩:=q.cases
 .rw[e]at h
  injection h with h _;subst h;exact qv7 f ((vns 12).E _ _ _ d).1
 all_goals grind
theorem vah(h:Flat t 0 ns)(e:ShA t):qh9 (kw [] ns) (A ns - 1)=match qz3 (qC t) with
  | none=>(0,0)
  | some q=>(4,q):=by
 have d:=vho h e [] rfl
 cases M5:qC t with
 | err q=>
  rw[M5]at d;have d:kw [] ns=.inl q:=d;rw[d];rfl
 | ok c=>
  rw[M5]at d;obtain⟨ds,u,v,f⟩:=d;rw[u,ij];show(if ds.getD (A ns - 1) 0≠0/\ds.getD (A ns - 1) 0≠1 then((4:Int),(0:Int)) else(0,0))=_;rw[f];obtain rfl|rfl|rfl|rfl:=c4 (qac t c M5)<;>rfl
theorem RT.clw{s:uj}(h:RT w rb s ns j st)(d:0<A ns):∃g LN cap,ClW w rb g LN cap ns [] w:=by
 obtain⟨nv,e,f,_⟩:=h;obtain⟨g,cap,rfl,_⟩:=f.opAt (i:=0) (n:=ns[0]) (ag d);exact⟨g,A ns,cap,e.c0,by rwa[qps],TKept.refl rb w,e.lt⟩
theorem RE.c9{s:uj}(h:RE w rb s en pl op m):Xc w rb 9 (I J pl):=by obtain⟨nv,a,ns,h,_⟩:=h;exact h.c9
def qgu(n:RN):Pay:=⟨qs1 n.op,n.at',n.M,n.str,n.esc,n.i⟩
theorem yS(d:0<=p.op)(e:p.op<=23):qgu (jR p ins neg)=p:=by
 show(⟨qs1 (qJ p.op),p.U,p.M,p.str,p.esc,p.i⟩:Pay)=p;rw[qb6 d e]
def qjg(ps:List Pr)(vs:List V)(n:RN):V:=if n.neg=ui then yR (ofN ps (qgu n) (n.ins.map λk=>vs.getD k nV)) else ofN ps (qgu n) (n.ins.map λk=>vs.getD k nV)
def qa8(ps:List Pr):List V->List RN->List V
 | vs,[]=>vs
 | vs,n::t=>qa8 ps (vs++[qjg ps vs n]) t
theorem qbh(ps:List Pr)(vs:List V)(l k:List RN):qa8 ps vs (l++k)=qa8 ps (qa8 ps vs l) k:=by
 induction l generalizing vs<;>grind[qa8]
theorem vm8(ps:List Pr):∀(l:List RN) (vs:List V),A (qa8 ps vs l)=A vs+A l:=by
 intro l
 induction l<;>grind[qa8]
theorem vch(ps:List Pr)(vs:List V)(n:RN)(c:Int):qjg ps vs { n with u:=c }=qjg ps vs n:=rfl
def qzd(ps:List Pr)(vs:List V)(l:List RN)(x:V):Prop:=∃ds,qa8 ps vs l=vs++ds/\A ds=A l/\ds.getD (A l - 1) nV=x
theorem qj1{es:List V}(h:A vs<=k)(d:k<A vs+A ds):(vs++ds++es).getD k nV=ds.getD (k - A vs) nV:=by
 grind
theorem qj0(h:A vs<=k)(_:k<A vs+A ds):(vs++ds).getD k nV=ds.getD (k - A vs) nV:=by
 grind
theorem qby{ps:List Pr}{n:RN}(h:qa8 ps vs l=vs++ds)(hd:A ds=A l)(d:qjg ps (vs++ds) n=x):qzd ps vs (l++[n]) x:=by
 grind[qbh,qa8,qzd]
section
variable {ps:List Pr} {vs:List V} {off:Nat} {p:Pay} {neg:Bool}
theorem vgb(hv:A vs=off)(v:0<A l)(q:0<=p.op)(u:p.op<=23)(d:qzd ps vs l x):qzd ps vs (l++[jR p [off+A l - 1] neg]) (if neg=ui then yR (ofN ps p [x]) else ofN ps p [x]):=by
 obtain⟨ds,h,f,z⟩:=d;refine qby h f ?_;have e:(vs++ds).getD (off+A l - 1) nV=x:=by grind
 unfold qjg;rw[yS q u];show(if neg=ui then yR (ofN ps p [(vs++ds).getD (off+A l - 1) nV]) else ofN ps p [(vs++ds).getD (off+A l - 1) nV])=_;rw[e]
theorem vn6{k:List RN}(hv:A vs=off)(F:0<A l)(J:0<A k)(v:0<=p.op)(D:p.op<=23)(f:qzd ps vs l x)(e:∀ds:List V,A ds=A l->qzd ps (vs++ds) k y):qzd ps vs (l++k++[jR p [off+A l - 1,off+A l+A k - 1] uh]) (ofN ps p [x,y]):=by
 obtain⟨ds,u,d,G⟩:=f;obtain⟨es,B,z,I⟩:=e ds d;have C:qa8 ps vs (l++k)=vs++(ds++es):=by rw[qbh,u,B,bw]
 refine qby C (by simp[d,z]) ?_;have q:(vs++(ds++es)).getD (off+A l - 1) nV=x:=by grind
 have h:(vs++(ds++es)).getD (off+A l+A k - 1) nV=y:=by grind
 unfold qjg;rw[yS v D];show ofN ps p [(vs++(ds++es)).getD (off+A l - 1) nV,(vs++(ds++es)).getD (off+A l+A k - 1) nV]=_;rw[q,h]
theorem qvj{k r:List RN}{z:V}(hv:A vs=off)(P:0<A l)(U:0<A k)(X:0<A r)(G:0<=p.op)(M:p.op<=23)(v:qzd ps vs l x)(u:∀ds:List V,A ds=A l->qzd ps (vs++ds) k y)(q:∀ds:List V,A ds=A l+A k->qzd ps (vs++ds) r z):
  qzd ps vs (l++k++r++[jR p [off+A l - 1,off+A l+A k - 1,off+A l+A k+A r - 1] neg]) (if neg=ui then yR (ofN ps p [x,y,z]) else ofN ps p [x,y,z]):=by
 obtain⟨ds,F,e,Q⟩:=v;obtain⟨es,I,f,R⟩:=u ds e;have L:qa8 ps vs (l++k)=vs++(ds++es):=by rw[qbh,F,I,bw]
 obtain⟨d,K,J,T⟩:=q (ds++es) (by simp[e,f]);have O:qa8 ps vs (l++k++r)=vs++(ds++es++d):=by rw[qbh,L,K,bw]
 refine qby O (by simp[e,f,J]) ?_
 have D:(vs++(ds++es++d)).getD (off+A l - 1) nV=x:=by
  rwa[bw ds,<-bw vs,qj1 uq uq,show off+A l - 1 - A vs=A l - 1 by omega]
 have C:(vs++(ds++es++d)).getD (off+A l+A k - 1) nV=y:=by
  rwa[bw ds,<-bw vs,<-bw (vs++ds),qj1 ut ut,show off+A l+A k - 1 - A (vs++ds)=A k - 1 by simp;omega]
 have B:(vs++(ds++es++d)).getD (off+A l+A k+A r - 1) nV=z:=by
  rwa[<-bw vs,qj0 ut ut,show off+A l+A k+A r - 1 - A (vs++(ds++es))=A r - 1 by simp;omega]
 unfold qjg;rw[yS G M];show(if neg=ui then yR (ofN ps p [(vs++(ds++es++d)).getD (off+A l - 1) nV,(vs++(ds++es++d)).getD (off+A l+A k - 1) nV,(vs++(ds++es++d)).getD (off+A l+A k+A r - 1) nV]) else ofN ps p [(vs++(ds++es++d)).getD (off+A l - 1) nV,(vs++(ds++es++d)).getD (off+A l+A k - 1) nV,(vs++(ds++es++d)).getD (off+A l+A k+A r - 1) nV])=_;rw[D,C,B]
end
theorem vn7(ps:List Pr):∀{t:Ast} {off:Nat} {l:List RN},Flat t off l->ShA t->∀vs:List V,A vs=off->qzd ps vs l (ofA ps t):=by
 intro t off l h
 induction h with
 | leaf p off=>
  intro d vs hv;have e:=d.1;have f:=d.2;refine qby (l:=[]) (ds:=[]) (by rw[gs];rfl) rfl ?_;unfold qjg;rw[yS e uq];rfl
 | un p hx ih=>
  intro d vs hv;have ho:=d.1;exact vgb (neg:=uh) hv hx.pos uq uq (ih d.2.2.2 vs hv)
 | bin p hx hy ihx ihy=>
  intro d vs hv;have ho:=d.1;exact vn6 hv hx.pos hy.pos uq uq (ihx d.2.1 vs hv) (λds hd=>ihy d.2.2 (vs++ds) ut)
 | tri p hx hy hz ihx ihy ihz=>
  intro d vs hv;have ho:=d.1;exact qvj (neg:=uh) hv hx.pos hy.pos hz.pos uq uq (ihx d.2.1 vs hv) (λds hd=>ihy d.2.2.1 (vs++ds) ut) (λds hd=>ihz d.2.2.2 (vs++ds) ut)
 | neg1 pl q hq hx ih=>
  intro d vs hv;obtain⟨_,_,_,d⟩:=d;exact vgb (neg:=ui) hv hx.pos uq uq (ih d.2.2.2 vs hv)
 | neg3 pl q hq hx hy hz ihx ihy ihz=>
  intro d vs hv;obtain⟨_,_,_,d⟩:=d;exact qvj (neg:=ui) hv hx.pos hy.pos hz.pos uq uq (ihx d.2.1 vs hv) (λds hd=>ihy d.2.2.1 (vs++ds) ut) (λds hd=>ihz d.2.2.2 (vs++ds) ut)
theorem vm7(ps:List Pr)(ns:List RN)(cs:List Int)(vs:List V):qa8 ps vs (xk ns cs)=qa8 ps vs ns:=by
 have key:∀(l:List RN) (k:Nat) (vs:List V),qa8 ps vs ((l.zipIdx k).map λx=>{ x.1 with u:=if x.2<A cs then cs.getD x.2 0 else x.1.u })=qa8 ps vs l:=by
  intro l
  induction l with
  | nil=>intro k vs;rfl
  | cons n t ih =>grind[List.zipIdx_cons,qa8,vch]
 exact key ns 0 vs
section
variable {w:Ao} {a N c:Int} {iv lv inv ev:Ap} {S E:uj} {neg:Bool}
theorem vma:lz 96 #[Ai #[Y ⟨#[110,117,109,98,101,114]⟩,I J a,iv,Y S,Y E,lv,I J N,Ah neg,I J c],inv,ev] w (vV (iV N)):=by
 go_enter func96,ntmps96
 go_wp2
 exact um ⟨rfl,(uy.alloc ux _).alloc ur _⟩
theorem vmb:lz 96 #[Ai #[Y ⟨#[116,101,120,116]⟩,I J a,iv,Y S,Y E,lv,I J N,Ah neg,I J c],inv,ev] w (vV (tV (T S.data))):=by
 go_enter func96,ntmps96
 go_wp2
 exact um ⟨rfl,(uy.alloc ux _).alloc ur _⟩
theorem vmc:lz 96 #[Ai #[Y ⟨#[84,82,85,69]⟩,I J a,iv,Y S,Y E,lv,I J N,Ah neg,I J c],inv,ev] w (vV (bV ui)):=by
 go_enter func96,ntmps96
 go_wp2_with(refine be (vQ _ _) λw' hb=>?_;obtain⟨d,e⟩:=qi hb;simp only[vV])
 refine bo (by simp[go_sem,d]<;>rfl) rfl ⟨rfl, ?_⟩;exact((((qg (qM _ _ _) hb).setCell ur _).setCell ur _).setCell ur _)
theorem vmd:lz 96 #[Ai #[Y ⟨#[70,65,76,83,69]⟩,I J a,iv,Y S,Y E,lv,I J N,Ah neg,I J c],inv,ev] w (vV (bV uh)):=by
 go_enter func96,ntmps96
 go_wp2_with(refine be (vQ _ _) λw' hb=>?_;obtain⟨d,e⟩:=qi hb;simp only[vV])
 refine bo (by simp[go_sem,d]<;>rfl) rfl ⟨rfl, ?_⟩;exact((((qg (qM _ _ _) hb).setCell ur _).setCell ur _).setCell ur _)
theorem vm9{v:V}(h:∀w2,Xb w w2->lz 132 #[ev,Y S] w2 (vV v)):lz 96 #[Ai #[Y ⟨#[110,97,109,101]⟩,I J a,iv,Y S,Y E,lv,I J N,Ah neg,I J c],inv,ev] w (vV v):=by
 have H:=qd h;go_enter func96,ntmps96
 go_wp2_with(refine be (H _ (qM _ _ _)) λw' hb=>?_;obtain⟨d,e⟩:=qi hb;simp only[vV])
 refine bo (by simp[go_sem,d]<;>rfl) rfl ⟨rfl, ?_⟩;exact((((qg (qM _ _ _) hb).setCell ur _).setCell ur _).setCell ur _)
theorem vme(u:0<n)(A:b<Z w.1)(q:Xc w b 0 (I J x.Q))(f:Xc w b 1 (I J x.M))(e:Xc w b 2 (Y (BS x.str))):
  lz 96 #[Ai #[Y ⟨#[78,79,84]⟩,I J a,iv,Y S,Y E,lv,I J N,Ah neg,I J c],C (G (D b 0 O)) n cap,ev] w (vV (yR x)):=by
 have z:=lq n;have RN:=qd (λw=>qka x w);simp only[vV]at RN;go_enter func96,ntmps96
 go_wp2_with(refine be (RN _) λw' hb=>?_;obtain⟨d,v⟩:=qi hb)
 refine bo (by simp[go_sem,d]<;>rfl) rfl ⟨rfl, ?_⟩;exact((((qg (qM _ _ _) hb).setCell ur _).setCell ur _).setCell ur _)
end
section
variable {w:Ao} {a N c:Int} {iv lv ev:Ap} {S E:uj} {neg:Bool}
theorem vev(f:0<n)(v:b<Z w.1)(e:Xc w b 0 (I J x.Q)):
  lz 96 #[Ai #[Y ⟨#[78,85,76,76]⟩,I J a,iv,Y S,Y E,lv,I J N,Ah neg,I J c],C (G (D b 0 O)) n cap,ev] w (vV (bV (x.Q==0))):=by
 have u:=lq n;go_enter func96,ntmps96
 go_wp2_with(refine be (vQ _ _) λw' hb=>?_;obtain⟨d,q⟩:=qi hb;simp only[vV])
 refine bo (by simp[go_sem,d]<;>rfl) rfl ⟨rfl, ?_⟩;exact((((qg (qM _ _ _) hb).setCell ur _).setCell ur _).setCell ur _)
theorem vmf(A:1<n)(L:b<Z w.1)(z:Xc w b 0 (I J x.Q))(v:Xc w b 1 (I J x.M))(u:Xc w b 2 (Y (BS x.str)))(q:Xc w b 3 (I J y.Q))(f:Xc w b 4 (I J y.M))(e:Xc w b 5 (Y (BS y.str))):
  lz 96 #[Ai #[Y ⟨#[65,78,68]⟩,I J a,iv,Y S,Y E,lv,I J N,Ah neg,I J c],C (G (D b 0 O)) n cap,ev] w (vV (qib x y)):=by
 have F:=lq n;have K:(1:Int)<(n:Int):=uq;have RN:=qd (λw=>qus x y w);simp only[vV]at RN;go_enter func96,ntmps96
 go_wp2
 go_region_with(go_at_call 134;refine be (RN _) λw' hb=>?_;obtain⟨d,B⟩:=qi hb)
 all_goals go_wp2
 all_goals refine bo (by simp[go_sem,d]<;>rfl) rfl ⟨rfl, ?_⟩
 all_goals exact((((qg (qM _ _ _).drew hb).setCell ur _).setCell ur _).setCell ur _)
theorem vmg(A:1<n)(L:b<Z w.1)(z:Xc w b 0 (I J x.Q))(v:Xc w b 1 (I J x.M))(u:Xc w b 2 (Y (BS x.str)))(q:Xc w b 3 (I J y.Q))(f:Xc w b 4 (I J y.M))(e:Xc w b 5 (Y (BS y.str))):
  lz 96 #[Ai #[Y ⟨#[79,82]⟩,I J a,iv,Y S,Y E,lv,I J N,Ah neg,I J c],C (G (D b 0 O)) n cap,ev] w (vV (orV x y)):=by
 have F:=lq n;have K:(1:Int)<(n:Int):=uq;have RN:=qd (λw=>ve9 x y w);simp only[vV]at RN;go_enter func96,ntmps96
 go_wp2
 go_region_with(go_at_call 135;refine be (RN _) λw' hb=>?_;obtain⟨d,B⟩:=qi hb)
 all_goals go_wp2
 all_goals refine bo (by simp[go_sem,d]<;>rfl) rfl ⟨rfl, ?_⟩
 all_goals exact((((qg (qM _ _ _).drew hb).setCell ur _).setCell ur _).setCell ur _)
theorem vmh(A:1<n)(L:b<Z w.1)(z:Xc w b 0 (I J x.Q))(v:Xc w b 1 (I J x.M))(u:Xc w b 2 (Y (BS x.str)))(q:Xc w b 3 (I J y.Q))(f:Xc w b 4 (I J y.M))(e:Xc w b 5 (Y (BS y.str))):
  lz 96 #[Ai #[Y ⟨#[61]⟩,I J a,iv,Y S,Y E,lv,I J N,Ah neg,I J c],C (G (D b 0 O)) n cap,ev] w (vV (eqV x y)):=by
 have F:=lq n;have K:(1:Int)<(n:Int):=uq;have RN:=qd (λw=>qcn x y w);simp only[vV]at RN;go_enter func96,ntmps96
 go_wp2
 go_region_with(go_at_call 136;refine be (RN _) λw' hb=>?_;obtain⟨d,B⟩:=qi hb)
 all_goals go_wp2
 all_goals refine bo (by simp[go_sem,d]<;>rfl) rfl ⟨rfl, ?_⟩
 all_goals exact((((qg (qM _ _ _).drew hb).setCell ur _).setCell ur _).setCell ur _)
theorem veq(v:0<n)(B:b<Z w.1)(u:Xc w b 0 (I J x.Q))(q:Xc w b 1 (I J x.M))(f:Xc w b 2 (Y (BS x.str)))(d:Rng x.M):
  lz 96 #[Ai #[Y ⟨#[112]⟩,I J a,iv,Y S,Y E,lv,I J N,Ah neg,I J c],C (G (D b 0 O)) n cap,ev] w (vV (qpt (iV 0) x)):=by
 have A:=lq n;have RN:=qd (λw=>qut (iV 0) x ⟨uu,uu⟩ d w);simp only[vV,iV]at RN;go_enter func96,ntmps96
 go_wp2_with(refine be (RN _) λw' hb=>?_;obtain⟨e,z⟩:=qi hb)
 refine bo (by simp[go_sem,e]<;>rfl) rfl ⟨rfl, ?_⟩;exact((((qg (qM _ _ _) hb).setCell ur _).setCell ur _).setCell ur _)
theorem ver(v:0<n)(B:b<Z w.1)(u:Xc w b 0 (I J x.Q))(q:Xc w b 1 (I J x.M))(f:Xc w b 2 (Y (BS x.str)))(d:Rng x.M):
  lz 96 #[Ai #[Y ⟨#[110]⟩,I J a,iv,Y S,Y E,lv,I J N,Ah neg,I J c],C (G (D b 0 O)) n cap,ev] w (vV (qym (iV 0) x)):=by
 have A:=lq n;have RN:=qd (λw=>quu (iV 0) x ⟨uu,uu⟩ d w);simp only[vV,iV]at RN;go_enter func96,ntmps96
 go_wp2_with(refine be (RN _) λw' hb=>?_;obtain⟨e,z⟩:=qi hb)
 refine bo (by simp[go_sem,e]<;>rfl) rfl ⟨rfl, ?_⟩;exact((((qg (qM _ _ _) hb).setCell ur _).setCell ur _).setCell ur _)
theorem vmi(hn:1<n)(G9:b<Z w.1)(X:Xc w b 0 (I J x.Q))(U:Xc w b 1 (I J x.M))(T:Xc w b 2 (Y (BS x.str)))(R:Xc w b 3 (I J y.Q))(Q:Xc w b 4 (I J y.M))(P:Xc w b 5 (Y (BS y.str))):
  lz 96 #[Ai #[Y ⟨#[60,62]⟩,I J a,iv,Y S,Y E,lv,I J N,Ah neg,I J c],C (G (D b 0 O)) n cap,ev] w (vV (yR (eqV x y))):=by
 have cM:=lq n;have Z7:(1:Int)<(n:Int):=uq;have RE:=qd (λw=>qcn x y w);have RN:=qd (λw=>qka (eqV x y) w);simp only[vV]at RE RN;go_enter func96,ntmps96
 go_wp2
 go_region_with(first|(go_at_call 136;refine be (RE _) λw1 f=>?_;have L:=qg (qM w _ _).drew f;obtain⟨e,M⟩:=qi f;have B9:Z w.1+2<=Z w1.1:=(by have:=f.size;change (Z ((w.alloc _).alloc _).1)<=_ at this;simp at this;omega);have v:Xc w1 (Z w.1+1) 0 (I J 0):=(e _ 0 (by show _<Z ((w.alloc _).alloc _).1;simp)).trans (by show((w.alloc _).alloc _).cell? _=_;simp);have u:Xc w1 (Z w.1+1) 1 (I J 0):=(e _ 1 (by show _<Z ((w.alloc _).alloc _).1;simp)).trans (by show((w.alloc _).alloc _).cell? _=_;simp);have q:Xc w1 (Z w.1+1) 2 (Y ⟨#[]⟩):=(e _ 2 (by show _<Z ((w.alloc _).alloc _).1;simp)).trans (by show((w.alloc _).alloc _).cell? _=_;simp);have sz:Xf w1 (Z w.1+1):=(λi=>(M _ i (by show _<Z ((w.alloc _).alloc _).1;simp)).trans (by show((w.alloc _).alloc _).frozen? _=_;simp)))|(go_at_call 97;refine be (RN _) λw' hb=>?_;obtain⟨d,F⟩:=qi hb;have K:=qg L hb;have B:=(d _ 0 uq).trans v;have A:=(d _ 1 uq).trans u;have z:=(d _ 2 uq).trans q;have rz:=(λi=>(F _ i uq).trans (sz i))))
 all_goals go_wp2
 all_goals refine bo (by simp[go_sem,B,A,z]<;>rfl) rfl ⟨rfl, ?_⟩
 all_goals exact(((K.setCell ur _).setCell ur _).setCell ur _)
theorem yX(f:uj)(q:([[110,97,109,101],[110,117,109,98,101,114],[116,101,120,116],[84,82,85,69],[70,65,76,83,69],[112],[110],[78,79,84],[65,78,68],[79,82],[61],[60,62],[66,69,84,87,69,69,78],[76,73,75,69],[78,85,76,76],[73,78]].any (f.toList==·))=uh){r:V}(hn:1<n)(e:b<Z w.1)(F:Xc w b 0 (I J x.Q))(B:Xc w b 1 (I J x.M))(A:Xc w b 2 (Y (BS x.str)))(z:Xc w b 3 (I J y.Q))(v:Xc w b 4 (I J y.M))(u:Xc w b 5 (Y (BS y.str)))
  (R:∀w,lz 133 #[Y f,vV x,vV y] w (vV r)) :
  lz 96 #[Ai #[Y f,I J a,iv,Y S,Y E,lv,I J N,Ah neg,I J c],C (G (D b 0 O)) n cap,ev] w (vV r):=by
 simp only[List.any_cons,List.any_nil,ir,nj]at q;obtain⟨k0,k1,k2,k3,k4,k5,k6,k7,k8,k9,Q,P,M,L,K,JQ⟩:=q;have cM:=lq n;have Z7:(1:Int)<(n:Int):=uq;have T:¬b=Z w.1:=uq;have U:¬b=Z w.1+1:=uq;have TJ:¬Z w.1+1=b:=uq;have X:0<n:=uq;have RN:=qd R;simp only[vV]at RN;go_enter func96,ntmps96
 go_wp2
 go_region_held3 (λW=>Xc W (Z w.1) 0 (Y f)/\Xc W b 0 (I J x.Q)/\Xc W b 1 (I J x.M)/\Xc W b 2 (Y (BS x.str))/\Xc W b 3 (I J y.Q)/\Xc W b 4 (I J y.M)/\Xc W b 5 (Y (BS y.str))) (first|with_reducible assumption|go_keep) ((go_at_call 133;refine be (RN _) λw' hb=>?_;obtain⟨d,hf⟩:=qi hb;have hS:(Xc w' (Z w.1) 0 (Y f)/\Xc w' b 0 (I J x.Q)/\Xc w' b 1 (I J x.M)/\Xc w' b 2 (Y (BS x.str))/\Xc w' b 3 (I J y.Q)/\Xc w' b 4 (I J y.M)/\Xc w' b 5 (Y (BS y.str))):=⟨(d _ 0 (by show _<Z ((w.alloc _).alloc _).1;simp;try omega)).trans (by show((w.alloc _).alloc _).cell? _=_;simp),(d _ 0 (by show _<Z ((w.alloc _).alloc _).1;simp;omega)).trans ((qi (qM w _ _)).1 b 0 e |>.trans F),(d _ 1 (by show _<Z ((w.alloc _).alloc _).1;simp;omega)).trans ((qi (qM w _ _)).1 b 1 e |>.trans B),(d _ 2 (by show _<Z ((w.alloc _).alloc _).1;simp;omega)).trans ((qi (qM w _ _)).1 b 2 e |>.trans A),(d _ 3 (by show _<Z ((w.alloc _).alloc _).1;simp;omega)).trans ((qi (qM w _ _)).1 b 3 e |>.trans z),(d _ 4 (by show _<Z ((w.alloc _).alloc _).1;simp;omega)).trans ((qi (qM w _ _)).1 b 4 e |>.trans v),(d _ 5 (by show _<Z ((w.alloc _).alloc _).1;simp;omega)).trans ((qi (qM w _ _)).1 b 5 e |>.trans u)⟩))
 all_goals go_wp2
 all_goals refine bo (by simp[go_sem,d]<;>rfl) rfl ⟨rfl, ?_⟩
 all_goals exact((((qg (qM _ _ _).drew hb).setCell ur _).setCell ur _).setCell ur _)
end
theorem qc6{a:Ao}(h:Xb a w)(d:Kept rb w w')(f:Z a.1<=rb):Xb a w':=
 ⟨d.os.trans h.os,d.tape.trans h.tape,d.output.trans h.output,bu h.size d.size,λk e=>(d.block k (md h.size) uq).trans (h.block k e)⟩
structure RdL(w wr:Ao)(rb pb:Nat)(s:Ps)(ts:List Tm)(tv:Ap)(rs:List Nat)(rv:Ap):Prop where
 ps:PsAt wr rb s
 c0:wr.cell? ⟨pb,0,O⟩=G tv
 c1:wr.cell? ⟨pb,1,O⟩=G rv
 fz:∀j,wr.frozen? ⟨pb,j,O⟩=uh
 lo:rb<pb
 lt:pb<wr.1.size
 ats:TsAt wr (pb+1) tv ts
 ars:IsAt wr (pb+1) rv rs
 ne:∀g,ug tv=G g->ug rv≠G g
 old:w.1.size<=rb
 bel:Below w.1.size w wr
theorem RdL.P{e:Ps}(h:RdL w wr rb pb s ts tv rs rv)(d:Kept rb wr w1)(hp:PsAt w1 rb e):RdL w w1 rb pb e ts tv rs rv:=by
 have u:=h.lo;obtain⟨f,q⟩:=jY d
 exact⟨hp,(f pb 0 h.lt uq).trans h.c0,(f pb 1 h.lt uq).trans h.c1,λj=>(q pb j h.lt uq).trans (h.fz j),u,au h.lt d.size,
  gk h.ats d uq,gk h.ars d uq,h.ne,h.old,qc6 h.bel d h.old⟩
theorem RdL.alloc(h:RdL w wr rb pb s ts tv rs rv)(o:Obj):RdL w (wr.alloc o) rb pb s ts tv rs rv:=
 h.P ((Kept.refl rb wr).alloc o) (h.ps.alloc o)
theorem PsAt.drew(h:PsAt w rb s):PsAt w.drew rb s:=h.same h.lt λ_ _=>rfl
theorem Kept.drew'(h:Kept rb w.drew w1):Kept rb w w1:=⟨h.os,h.tape,h.output,h.size,h.block⟩
theorem RdL.addT(h:RdL w W rb pb s ts tv rs rv){t:Tm}
  (M:ue w2 (pb+1) 187 6 (C (G (D g 0 O)) (A ts+1) cap) (A ts+1) (xJ ts++yH t)) (f:W.grownBy w2 (ug tv)) (u:ug tv=G g\/g=H) (Q:Z W.1=H) :
  RdL w (B w2 (D pb 0 O) (C (G (D g 0 O)) (A ts+1) cap)) rb pb s (ts++[t]) (C (G (D g 0 O)) (A ts+1) cap) rs rv:=by
 have L:=h.lo;have T:=h.lt;have R:∀k,ug tv=G k->pb+1<=k:=λk d=>(h.ats.lt k d).1
 have P:=f.size;have hb:∀k,k<=pb->w2.1[k]?=W.1[k]?:=λk d=>f.block k uq (λe=>by grind)
 have z:∀k,k<pb->(B w2 (D pb 0 O) (C (G (D g 0 O)) (A ts+1) cap)).1[k]?=W.1[k]?:=λk d=>(bi w2 ⟨pb,0,O⟩ _ k (by show k≠pb;omega)).trans (hb k uq)
 have c0:Xc w2 pb 0 tv:=(bg (w:=W) (w':=w2) (a:=D pb 0 O) (hb pb ux)).trans h.c0;have c1:Xc w2 pb 1 rv:=(bg (w:=W) (w':=w2) (a:=D pb 1 O) (hb pb ux)).trans h.c1;have fz:Xf w2 pb:=λj=>(cn (w:=W) (w':=w2) (a:=D pb j O) (hb pb ux)).trans (h.fz j)
 refine⟨h.ps.same ut λk d=>z k uq,by simp[go_sem,c0],by simp[go_sem,c1],λj=>by simp[go_sem,fz],L,ut, ?_, ?_, ?_,h.old, ?_⟩
 .show ue _ _ _ _ _ _ _
  rw[cd,dj,xJ,List.flatMap_append,List.flatMap_singleton];exact ownsRow_setCell_below M (by grind) _
 .refine qm h.ars λq hg'=>?_
  have I:=h.ars.lt q hg';rw[bi w2 ⟨pb,0,O⟩ _ q (by show q≠pb;omega)];exact f.block q I.2 (λe=>h.ne q e.symm hg')
 intro K F v;have J:g=K:=by simpa [Value.ownBlock]using F
 subst J;obtain u|u:=u;exact h.ne g u v;have:=(h.ars.lt g v).2;omega;exact⟨(f.os.trans h.bel.os),(f.tape.trans h.bel.tape),(f.output.trans h.bel.output),by grind[RdL],λk d=>(z k (md h.old)).trans (h.bel.block k d)⟩
theorem RdL.addR(h:RdL w W rb pb s ts tv rs rv){t:Nat}
  (Q:ue w2 (pb+1) 3 1 (C (G (D g 0 O)) (A rs+1) cap) (A rs+1) (zp rs++[I J t])) (f:W.grownBy w2 (ug rv)) (u:ug rv=G g\/g=H) (T:Z W.1=H) :
  RdL w (B w2 (D pb 1 O) (C (G (D g 0 O)) (A rs+1) cap)) rb pb s ts tv (rs++[t]) (C (G (D g 0 O)) (A rs+1) cap):=by
 have P:=h.lo;have X:=h.lt;have U:∀k,ug rv=G k->pb+1<=k:=λk d=>(h.ars.lt k d).1
 have R:=f.size;have hb:∀k,k<=pb->w2.1[k]?=W.1[k]?:=λk d=>f.block k uq (λe=>by grind)
 have z:∀k,k<pb->(B w2 (D pb 1 O) (C (G (D g 0 O)) (A rs+1) cap)).1[k]?=W.1[k]?:=λk d=>(bi w2 ⟨pb,1,O⟩ _ k (by show k≠pb;omega)).trans (hb k uq)
 have c0:Xc w2 pb 0 tv:=(bg (w:=W) (w':=w2) (a:=D pb 0 O) (hb pb ux)).trans h.c0;have c1:Xc w2 pb 1 rv:=(bg (w:=W) (w':=w2) (a:=D pb 1 O) (hb pb ux)).trans h.c1;have fz:Xf w2 pb:=λj=>(cn (w:=W) (w':=w2) (a:=D pb j O) (hb pb ux)).trans (h.fz j)
 refine⟨h.ps.same ut λk d=>z k uq,by simp[go_sem,c0],by simp[go_sem,c1],λj=>by simp[go_sem,fz],P,ut, ?_, ?_, ?_,h.old, ?_⟩
 .refine qm h.ats λq hg'=>?_
  have K:=h.ats.lt q hg';rw[bi w2 ⟨pb,1,O⟩ _ q (by show q≠pb;omega)];exact f.block q K.2 (λe=>h.ne q hg' e.symm)
 .show ue _ _ _ _ _ _ _
  rw[cd,dj,zp,dq];exact ownsRow_setCell_below Q (by grind) _
 intro M v F;have L:g=M:=by simpa [Value.ownBlock]using F
 subst L;obtain u|u:=u;exact h.ne g v u;have:=(h.ats.lt g v).2;omega;exact⟨(f.os.trans h.bel.os),(f.tape.trans h.bel.tape),(f.output.trans h.bel.output),by grind[RdL],λk d=>(z k (md h.old)).trans (h.bel.block k d)⟩
theorem RdL.far(h:RdL w W rb pb s ts tv rs rv){row:Option Nat}(q:W.grownBy w2 row)(f:row=ug tv\/row=ug rv):
  Xc w2 pb 0 tv/\Xc w2 pb 1 rv/\(Xf w2 pb)/\pb<Z w2.1:=by
 have u:∀k,row=G k->pb+1<=k:=λk d=>by
  obtain rfl|rfl:=f;exact(h.ats.lt k d).1;exact(h.ars.lt k d).1
 have hb:w2.1[pb]?=W.1[pb]?:=q.block pb h.lt (λe=>by grind)
 grind[World.cell?_of_block,World.frozen?_of_block,RdL]
def xb(ats:Array TypeId)(ty:TypeId)(args:Array Ap):Sem Ap:=Builtin.append_ ats ty args
theorem vp(ats:Array TypeId)(ty:TypeId)(args:Array Ap):Builtin.append_ ats ty args=xb ats ty args:=rfl
theorem RdL.appT(h:RdL w W rb pb s ts tv rs rv)(t:Tm)(U:A ts<=1000)(ty:TypeId):
  ∃g cap d,(xb #[49,49] ty #[tv,C (G ⟨Z W.1,0,O⟩) 1 1]).run prog (W.alloc (Al #[I J t.op,I J t.left,I J t.right,I J t.M,Y (BS t.str),Y (BS t.esc)] 187))=.ok (C (G (D g 0 O)) (A ts+1) cap) d /\
   Xc d pb 0 tv/\(Xf d pb)/\pb<Z d.1 /\
   Hid (RdL w (B d (D pb 0 O) (C (G (D g 0 O)) (A ts+1) cap)) rb pb s (ts++[t]) (C (G (D g 0 O)) (A ts+1) cap) rs rv):=by
 obtain⟨q,v,K,R,L⟩:=info_parts qez;have e:=h.alloc (Al #[I J t.op,I J t.left,I J t.right,I J t.M,Y (BS t.str),Y (BS t.esc)] 187);have X:=h.lt;obtain⟨g,cap,d,u,T,f,M,_⟩:=run_append_lies (P:=prog) (W.alloc (Al #[I J t.op,I J t.left,I J t.right,I J t.M,Y (BS t.str),Y (BS t.esc)] 187)) 49 ty (pb+1) 187 q _ 6 64 underlying49 v K R L rfl uq tv (A ts) (xJ ts) e.ats
  ⟨Z W.1,0,O⟩ 1 1 (yH t) rfl (World.news_of_block (cs:=#[I J t.op,I J t.left,I J t.right,I J t.M,Y (BS t.str),Y (BS t.esc)]) (t:=187) (fr:=(0,0)) (heap_alloc_new W _)) (by simp[yH,Value.oneCell']) uq (by unfold maxLen;omega) uq ut _ rfl
 obtain⟨F,_,z,Q⟩:=e.far f (.inl rfl);exact⟨g,cap,d,u,F,z,Q,qd (e.addT T f M rfl)⟩
theorem RdL.appR(h:RdL w W rb pb s ts tv rs rv)(r:Nat)(U:A rs<=1000)(ty:TypeId):
  ∃g cap d,(xb #[50,50] ty #[rv,C (G ⟨Z W.1,0,O⟩) 1 1]).run prog (W.alloc (Al #[I J r] 3))=.ok (C (G (D g 0 O)) (A rs+1) cap) d /\
   Xc d pb 1 rv/\(Xf d pb)/\pb<Z d.1 /\
   Hid (RdL w (B d (D pb 1 O) (C (G (D g 0 O)) (A rs+1) cap)) rb pb s ts tv (rs++[r]) (C (G (D g 0 O)) (A rs+1) cap)):=by
 obtain⟨q,v,K,R,L⟩:=info_parts kA;have e:=h.alloc (Al #[I J r] 3);have X:=h.lt;obtain⟨g,cap,d,u,T,f,M,_⟩:=run_append_lies (P:=prog) (W.alloc (Al #[I J r] 3)) 50 ty (pb+1) 3 q _ 1 8 underlying50 v K R L rfl uq rv (A rs) (zp rs) e.ars
  ⟨Z W.1,0,O⟩ 1 1 [I J r] rfl (World.news_of_block (cs:=#[I J r]) (t:=3) (fr:=(0,0)) (heap_alloc_new W _)) (by simp[Value.oneCell']) uq (by unfold maxLen;omega) uq ut _ rfl
 obtain⟨_,F,z,Q⟩:=e.far f (.inr rfl);exact⟨g,cap,d,u,F,z,Q,qd (e.addR T f M rfl)⟩
structure ProgAt(w:Ao)(pb o:Nat)(ts:List Tm)(rs:List Nat):Prop where
 lt:pb<w.1.size
 c0:∃tv base,w.cell? ⟨pb,o,O⟩=G tv/\TsAt w base tv ts
 c1:∃rv base,w.cell? ⟨pb,o+1,O⟩=G rv/\IsAt w base rv rs
theorem ProgAt.h{o:Nat}(h:ProgAt w pb o ts rs)(hb:Xb w w'):ProgAt w' pb o ts rs:=by
 obtain⟨d,⟨tv,v,u,e⟩,rv,b1,q,f⟩:=h;exact⟨au d hb.size,⟨tv,v,(hb.cell d).trans u,qp e hb ux⟩,rv,b1,(hb.cell d).trans q,qp f hb ux⟩
theorem RdL.prog(h:RdL w wr rb pb s ts tv rs rv):ProgAt wr pb 0 ts rs:=by constructor<;>grind[RdL]
structure Mg where
 pri:Int
 M:Int
def bef(x y:Mg):Bool:=if x.pri != y.pri then decide (y.pri<x.pri) else decide (x.M<y.M)
def mgV(x:Mg):Ap:=Ai #[I J x.pri,I J x.M]
theorem qzr(x y:Mg)(w:Ao):lz 198 #[mgV x,mgV y] w (Ah (bef x y)):=by
 unfold mgV
 by_cases h:x.pri=y.pri
 .have hb:bef x y=decide (x.M<y.M):=by simp[bef,h]
  have hd:(x.pri != y.pri)=uh:=by simp[h]
  rw[hb];go_enter func198,ntmps198
  go_wp2
  go_ret;exact⟨rfl,qM w _ _⟩
 have hb:bef x y=decide (y.pri<x.pri):=by simp[bef,h]
 rw[hb];go_enter func198,ntmps198
 go_wp2
 go_ret;exact⟨rfl,qM w _ _⟩
theorem qze(k:Nat)(d:k<=1000)(w:Ao):uo 163 #[I J ((k+1:Nat):Int)] w λe w'=>e=Ak (I J ((k / 2:Nat):Int))/\w'=w:=by
 go_enter func163,ntmps163
 go_wp2
 go_ret;exact⟨rfl,rfl⟩
def MgBlk(w:Ao)(g cap:Nat):Prop:=cap<=maxLen/\∃cur:Array Ap,w.1[g]?=G (Al cur 142 (0,0))/\cur.size=cap * 2
theorem MgBlk.same(h:MgBlk w g cap)(hb:w'.1[g]?=w.1[g]?):MgBlk w' g cap:=by
 grind[MgBlk]
theorem MgBlk.set(h:MgBlk w g cap)(o:Nat)(v:Ap):MgBlk (B w (D g o O) v) g cap:=by
 grind[B,MgBlk]
structure HpAt(w:Ao)(hb ho g cap:Nat)(ms:List Mg):Prop where
 c:w.cell? ⟨hb,ho,O⟩=G (C (G ⟨g,0,O⟩) (A ms) cap)
 fz:w.frozen? ⟨hb,ho,O⟩=uh
 ne:g≠hb
 lt:hb<w.1.size
 glt:g<w.1.size
 pri:∀(i:Nat) (m:Mg),ms[i]?=G m->w.cell? ⟨g,i * 2,O⟩=G (I J m.pri)/\w.cell? ⟨g,i * 2+1,O⟩=G (I J m.M)
 gfz:∀j,w.frozen? ⟨g,j,O⟩=uh
 blk:MgBlk w g cap
 room:A ms<=cap
theorem HpAt.h{ms:List Mg}(h:HpAt w hb ho g cap ms)(d:Xb w w'):HpAt w' hb ho g cap ms:=by
 obtain⟨e,q⟩:=qi d;exact⟨(e hb ho h.lt).trans h.c,(q hb ho h.lt).trans h.fz,h.ne,au h.lt d.size,au h.glt d.size,λi m f=>⟨(e g _ h.glt).trans (h.pri i m f).1,(e g _ h.glt).trans (h.pri i m f).2⟩,λj=>(q g j h.glt).trans (h.gfz j),h.blk.same (d.block g h.glt),h.room⟩
theorem HpAt.swap{ms:List Mg}(h:HpAt w hb ho g cap ms){x y:Mg}(q:ms[i]?=G x)(f:ms[j]?=G y)(M:i≠j):
  HpAt (B (B (B (B w ⟨g,i * 2,O⟩ (I J y.pri)) ⟨g,i * 2+1,O⟩ (I J y.M)) ⟨g,j * 2,O⟩ (I J x.pri)) ⟨g,j * 2+1,O⟩ (I J x.M)) hb ho g cap ((ms.set i y).set j x):=by
 obtain⟨c,fz,D,lt,glt,cells,gfz,blk,room⟩:=h;obtain⟨C,z⟩:=cells i x q;obtain⟨v,u⟩:=cells j y f;have P:i<A ms:=(aj.1 q).1;have L:j<A ms:=(aj.1 f).1;refine⟨by simp[go_sem,c],by simp[go_sem,fz],D,by simpa using lt,by simpa using glt,λk m d=>?_,λj=>by simp[go_sem,gfz],(((blk.set _ _).set _ _).set _ _).set _ _,by simpa using room⟩
 by_cases hkj:k=j
 .subst hkj
  rw[List.getElem?_set_self (by simpa using L)]at d;simp at d;subst d;constructor<;>simp[go_sem,v,u]
 rw[List.getElem?_set_ne (λe=>hkj e.symm)]at d
 by_cases hki:k=i
 .subst hki
  rw[List.getElem?_set_self P]at d;simp at d;subst d;constructor<;>simp[go_sem,C,z]
 rw[List.getElem?_set_ne (λe=>hki e.symm)]at d;obtain⟨K,F⟩:=cells k m d;constructor<;>simp[go_sem,K,F]
theorem qva(hb ho g cap:Nat)(ms:List Mg)(i j:Nat)(x y:Mg)(q:ms[i]?=G x)(f:ms[j]?=G y)(d:i≠j)(w:Ao)(h:HpAt w hb ho g cap ms):
  uo 161 #[Ag (G (D hb ho O)),I J i,I J j] w λe w'=>e=Ak (Aj #[])/\HpAt w' hb ho g cap ((ms.set i y).set j x)/\Kept g w w':=by
 have C:=qd ((h.h uy.drew).swap q f d);obtain⟨c,fz,Q,lt,glt,cells,gfz,blk,room⟩:=h;obtain⟨P,M⟩:=cells i x q;obtain⟨L,K⟩:=cells j y f;have z:i<A ms:=(aj.1 q).1;have v:j<A ms:=(aj.1 f).1;obtain⟨n,u⟩:=ie (A ms);rw[u]at c z v;have R:¬j=i:=λe=>d e.symm
 have F:Hid (Kept g w (B (B (B (B w ⟨g,i * 2,O⟩ (I J y.pri)) ⟨g,i * 2+1,O⟩ (I J y.M)) ⟨g,j * 2,O⟩ (I J x.pri)) ⟨g,j * 2+1,O⟩ (I J x.M)).drew):=qd (((((Kept.refl g w).setCell _ _).setCell _ _).setCell _ _).setCell _ _).drew;clear cells q f u d blk room;go_enter func161,ntmps161
 go_region
 all_goals go_wp2
 all_goals exact ub (results_none rfl _ _ _) rfl ⟨rfl,q9 C,q9 F⟩
def BS5(hb ho g n cap i j:Nat)(x y:Mg)(w':Ao):Prop:=w'.cell? (D hb ho O)=G (C (G (D g 0 O)) n cap)/\w'.cell? ⟨g,i * 2,O⟩=G (I J x.pri)/\w'.cell? ⟨g,i * 2+1,O⟩=G (I J x.M)/\w'.cell? ⟨g,j * 2,O⟩=G (I J y.pri)/\w'.cell? ⟨g,j * 2+1,O⟩=G (I J y.M)
theorem HpAt.bs5{ms:List Mg}(h:HpAt w hb ho g cap ms){x y:Mg}(e:ms[i]?=G x)(d:ms[j]?=G y):BS5 hb ho g (A ms) cap i j x y w:=by grind[HpAt,BS5]
theorem qh6(hb ho g cap:Nat)(ms:List Mg)(i j:Nat)(x y:Mg)(e:ms[i]?=G x)(d:ms[j]?=G y)(w:Ao)(h:HpAt w hb ho g cap ms):
  lz 162 #[Ag (G (D hb ho O)),I J i,I J j] w (Ah (bef x y)):=by
 have K:i<A ms:=(aj.1 e).1;have F:j<A ms:=(aj.1 d).1;have f:=(h.h uy.drew).bs5 e d;have q:Hid (∀w',Xb w w'->BS5 hb ho g (A ms) cap i j x y w'):=qd λw' L=>(h.h L).bs5 e d
 obtain⟨n,B⟩:=ie (A ms);rw[B]at f q K F;unfold BS5 at f;have u:=qd (λw=>qzr x y w);unfold mgV at u;go_enter func162,ntmps162
 go_wp2
 go_region_held3 (λw'=>Xc w' hb ho (C (G (D g 0 O)) n cap)/\Xc w' g (i * 2) (I J x.pri)/\Xc w' g (i * 2+1) (I J x.M)/\Xc w' g (j * 2) (I J y.pri)/\Xc w' g (j * 2+1) (I J y.M)) (with_reducible assumption) ((go_at_call 198;refine be (u _) λw1 M=>?_;have v:=qd (qg (Below.refl _ w).drew M);have z:=q9 q w1 v;unfold BS5 at z))
 all_goals go_wp2
 all_goals go_ret
 all_goals exact⟨rfl,q9 v⟩
def qbc:Nat->List Mg->Nat->List Mg
 | 0,ms,_=>ms
 | _+1,ms,0=>ms
 | n+1,ms,k+1=>match ms[k+1]?,ms[k / 2]? with
  | some x,G y=>if bef x y then qbc n ((ms.set (k+1) y).set (k / 2) x) (k / 2) else ms
  | _,_=>ms
def qns(ms:List Mg)(k:Nat):List Mg:=qbc (k+1) ms k
theorem qhr(n:Nat)(ms:List Mg):qbc n ms 0=ms:=by cases n<;>rfl
theorem qhq{ms:List Mg}{x y:Mg}(e:ms[k+1]?=G x)(d:ms[k / 2]?=G y)(hb:bef x y=uh):qbc n ms (k+1)=ms:=by
 cases n<;>grind[qbc]
theorem quy{ms:List Mg}{x y:Mg}(e:ms[k+1]?=G x)(d:ms[k / 2]?=G y)(hb:bef x y=ui):qbc (n+1) ms (k+1)=qbc n ((ms.set (k+1) y).set (k / 2) x) (k / 2):=by
 simp_all [qbc]
theorem vkw(hb ho g cap:Nat)(ms:List Mg)(k:Nat)(hk:k<A ms)(Z:A ms<=100)(w:Ao)(h:HpAt w hb ho g cap ms):
  uo 115 #[Ag (G (D hb ho O)),I J k] w λe w'=>e=Ak (Aj #[])/\HpAt w' hb ho g cap (qns ms k)/\Kept g w w':=by
 obtain⟨R,P⟩:=ie (qns ms k);rw[P];have HR:Hid (R=qbc (k+1) ms k):=qd P.symm;have H0:=qd h;have Y:Hid (k<A ms):=qd hk;have LS:Hid (A ms<=100):=qd Z;go_enter func115,ntmps115
 go_wp2
 go_loopw [1] (λi wr=>∃(j n:Nat) (ms':List Mg),i=I J j/\Hid (R=qbc n ms' j)/\Hid (j<A ms')/\Hid (j<n)/\Hid (A ms'<=100)/\Hid (HpAt wr hb ho g cap ms')/\Hid (Kept g w wr)) (λi _=>(intOf i).toNat)
 exact⟨k,k+1,ms,rfl,HR,Y,qd (du _),LS,H0,qd (Kept.refl _ _)⟩;obtain⟨j,n,ms',rfl,C,v,Q,T,z,L⟩:=hrel
 cases j with
 | zero=>
  go_wp2
  exact ub (results_none rfl _ _ _) rfl ⟨rfl,by rw[q9 C,qhr];exact q9 z,q9 L⟩
 | succ j=>
  obtain⟨x,u⟩:∃x,ms'[j+1]?=G x:=⟨_,ag v⟩;obtain⟨y,q⟩:∃y,ms'[j / 2]?=G y:=⟨_,ag (md (q9 v))⟩;have hj:j<=1000:=by have:=q9 v;have:=q9 T;omega
  have U:=qd (λw=>qze j hj w);have B:=qd (λw1 (K:Xb wr w1)=>qh6 hb ho g cap ms' (j+1) (j / 2) x y u q w1 (z.h K))
  cases hbef:bef x y with
  | false=>
   rw[hbef]at B;have F:=qd (qhq (n:=n) u q hbef)
   go_wp2_with(first|(go_at_call 162;refine be (B _ uy) λw2 M=>?_;have d:=qd M)|(refine be (U _) ?_;rintro w1 rfl))
   exact ub (results_none rfl _ _ _) rfl ⟨rfl,by rw[q9 C,q9 F];exact z.h d,L.trans (Kept.x d)⟩
  | true=>
   rw[hbef]at B;obtain⟨f,rfl⟩:∃f,n=f+1:=⟨n - 1,md (q9 Q)⟩;have F:=qd (quy (n:=f) u q hbef);have SW:=qd (λw1 (K:Xb wr w1)=>qva hb ho g cap ms' (j+1) (j / 2) x y u q uq w1 (z.h K));have X:Hid (A ((ms'.set (j+1) y).set (j / 2) x)=A ms'):=qd ur
   go_wp2_with(first|(go_at_call 161;refine be (SW _ d) ?_;rintro w3⟨YX,F2⟩;have H3:=qd YX;have K3:=qd ((L.trans (Kept.x d)).trans F2))|(go_at_call 162;refine be (B _ uy) λw2 M=>?_;have d:=qd M)|(refine be (U _) ?_;rintro w1 rfl))
   exact⟨⟨j / 2,f,_,rfl,qd (by rw[q9 C,q9 F]),qd (by have:=q9 v;rw[q9 X];omega),qd (md (q9 Q)),qd (by rw[q9 X];exact q9 T),H3,K3⟩,by simp[intOf];omega⟩
def xa(w:Ao)(r:RRes)(e:Ending)(w':Ao):Prop:=Below (Z w.1) w w'/\match r with
 | .ok t=>e=Ak (Aj #[Ag (G ⟨Z w.1,0,O⟩),I J 0,I J 0])/\Z w.1<Z w'.1/\∃ns cs g LN cap,Flat t 0 ns/\ShA t/\A ns<=200/\w'.cell? ⟨Z w.1,0,O⟩=G (C (G (D g 0 O)) LN cap)/\NodesAt w' (Z w.1) (C (G (D g 0 O)) LN cap) (xk ns cs)
 | .err en pl=>e=Ak (Aj #[Ag O,I J en,I J pl])
theorem yr(w:Ao)(s:uj):TrC (w.alloc (Al #[C O 0 0,Y s,I J 0,I J 0,I J 0,Y ⟨#[]⟩,I J 0,I J 0,I J 0,I J 0] 173)) (Z w.1) (C O 0 0) s 0 0 (0:Nat) ⟨#[]⟩ 0 0 0 0:=by
 refine⟨ur, ?_, ?_, ?_, ?_, ?_, ?_, ?_, ?_, ?_, ?_,λj=>?_⟩
 all_goals simp
theorem kN{s:uj}(h:TKept (Z w.1) (w.alloc (Al #[C O 0 0,Y s,I J 0,I J 0,I J 0,Y ⟨#[]⟩,I J 0,I J 0,I J 0,I J 0] 173)) w'):Xb w w':=by
 have hb:Xb w (w.alloc (Al #[C O 0 0,Y s,I J 0,I J 0,I J 0,Y ⟨#[]⟩,I J 0,I J 0,I J 0,I J 0] 173)):=uy.alloc ux _;refine⟨h.os.trans hb.os,h.tape.trans hb.tape,h.output.trans hb.output,bu hb.size h.size,λk f=>(h.block k ut ?_).trans (hb.block k f)⟩;rintro (e|⟨nv,d,q⟩);omega;rw[(yr w s).c0]at d;injection d with d;subst d;cases q
theorem qxz(s:uj)(h:¬s.size<=200)(d:s.size<=140737488355328)(w:Ao):
  uo 51 #[Y s] w (xa w (.err 1 0)):=by
 go_enter func51,ntmps51
 go_wp2
 exact bo (by simp[go_sem]) rfl ⟨uy,rfl⟩
theorem vee(s:uj)(q:s.size<=200)(w:Ao)(F:(lvl s 12).E (qh s st0)=.err en pl):
  uo 51 #[Y s] w (xa w (.err en pl)):=by
 have M:=qd (yU (yr w s) q (bt _) (kq s st0));have R:=qd F;go_enter func51,ntmps51
 go_upto_region 6 with(first|(go_at_call 92;refine be M ?_;rintro w1⟨v,A5⟩;have K:=TKept.of_kept A5 (v.c0.trans (yr w s).c0.symm);have A:=qd K;have P:Hid (RT w1 (Z w.1) s [] 0 (qh s st0)):=qd ⟨_,v,NodesAt.nil _ _,qH s st0 (bt _),bt _⟩)|(go_at_call 93;refine((quc (Z w.1) s q 12 0 rfl).E w1 (qh s st0) [] 0 P rfl).mono ?_;rintro e w2⟨B,u⟩;rw[q9 R]at u;obtain⟨i,rfl,d⟩:=u;have Q:=qd d;have z:=qd B;clear B d))
 obtain d|⟨rfl,d⟩:=q9 Q
 .obtain⟨c8,mB⟩:=d.c8
  have c9:=d.c9
  go_wp2
  go_quiet (fail)
  go_wp2
  exact bo (by simp[go_sem]) rfl ⟨eg (kN (A.trans z)) _,rfl⟩
 obtain⟨ns,nv,st,f,hN,C,rfl,hm,dI,D⟩:=d;have c8:=f.c8;have c3:=f.c3;have c2:=f.c2;rw[show rK st.tk.Q=6 by obtain e|e:=C<;>rw[e]<;>rfl]at c2;have T:Hid (uo 94 #[Ag (G ⟨Z w.1,0,O⟩),I J 2,I J st.U] w2 λe w'=>e=Ak (Aj #[])/\TrC w' (Z w.1) nv s 1 st.U 0 ⟨#[]⟩ 0 (0:Nat) 2 st.U/\Kept (Z w.1) w2 w'):=qd (gw f 2 st.U);have X:=qd f.c0
 go_wp2_with(go_at_call 94;refine be T ?_;rintro w3⟨h,U⟩;have e8:=h.c8;have e9:=h.c9;have L:=qd (TKept.of_kept U (h.c0.trans X.symm)))
 go_quiet (fail)
 go_wp2
 exact bo (by simp[go_sem]) rfl ⟨eg (kN ((A.trans z).trans L)) _,rfl⟩
theorem qy0(s:uj)(d:s.size<=200)(w:Ao)(z:(lvl s 12).E (qh s st0)=.ok t st)(Q:¬st.tk.Q=0):
  uo 51 #[Y s] w (xa w (.err 2 st.U)):=by
 have C:=qd (yU (yr w s) d (bt _) (kq s st0));have I:=qd z;have U:¬rK st.tk.Q=0:=by unfold rK;split<;>(try split)<;>omega
 go_enter func51,ntmps51
 go_wp2_with(first|(go_at_call 92;refine be C ?_;rintro w1⟨u,M⟩;have A:=TKept.of_kept M (u.c0.trans (yr w s).c0.symm);have F:=qd A;have G:Hid (RT w1 (Z w.1) s [] 0 (qh s st0)):=qd ⟨_,u,NodesAt.nil _ _,qH s st0 (bt _),bt _⟩)|(go_at_call 93;refine((quc (Z w.1) s d 12 0 rfl).E w1 (qh s st0) [] 0 G rfl).mono ?_;rintro e w2⟨L,q⟩;rw[q9 I]at q;obtain⟨new,rfl,f,X,M7,F9⟩:=q;have J:=qd (pS f d 2 st.U uu);have c8:=f.c8;obtain⟨T,R,_⟩:=f.ct;have D:=qd L)|(refine be J ?_;rintro O⟨K,v⟩;obtain⟨c8,P⟩:=v.c8;have c9:=v.c9;have B:=qd K))
 go_quiet (fail)
 go_wp2
 exact bo (by simp[go_sem]) rfl ⟨eg (kN ((F.trans D).trans B)) _,rfl⟩
theorem vm2(s:uj)(I:s.size<=200)(w:Ao)(u:(lvl s 12).E (qh s st0)=.ok t st)(X:st.tk.Q=0){R:RRes}(hc:(∃q,qz3 (qC t)=G q/\R=.err 4 q)\/qz3 (qC t)=O/\R=.ok t):
  uo 51 #[Y s] w (xa w R):=by
 have ST:=qd (yU (yr w s) I (bt _) (kq s st0));have HE:=qd u;have B:=qd (qp9 u);have T:Hid (rK st.tk.Q=0):=qd (by rw[X];rfl);obtain⟨q,d,rfl⟩|⟨d,rfl⟩:=hc
 all_goals have d:=qd d
 all_goals go_enter func51,ntmps51
 all_goals go_wp2_with(first|(go_at_call 92;refine be ST ?_;rintro w1⟨K,A5⟩;have bE:=TKept.of_kept A5 (K.c0.trans (yr w s).c0.symm);have P:=qd bE;have I8:Hid (RT w1 (Z w.1) s [] 0 (qh s st0)):=qd ⟨_,K,NodesAt.nil _ _,qH s st0 (bt _),bt _⟩)|(go_at_call 93;refine((quc (Z w.1) s I 12 0 rfl).E w1 (qh s st0) [] 0 I8 rfl).mono ?_;rintro e w2⟨B8,J⟩;rw[q9 HE]at J;obtain⟨new,u,f,U3,M7,z⟩:=J;rw[ij]at f;have M:=z.pos;have K7:=f.few;have ZD:=f.y.U;obtain⟨g,LN,cap,GK⟩:=f.clw M;have F:=qd (qd5 GK M uq (λi n U=>by have:=qje z B i n U;rwa [im,ed]at this));rw[vah (by have:=z;rwa [im]at this) B,q9 d]at F;obtain⟨tp,Q⟩:∃x:Nat,A new - 1=x:=⟨_,rfl⟩;rw[im,ed,Q]at u;rw[Q]at F;subst u;have c8:=f.c8;obtain⟨c2,_⟩:=f.ct;rw[q9 T]at c2;have CH:=f.lt;have L:=qd B8;have V3:=qd z)|(refine be F ?_;rintro w3⟨F2,v⟩;have C:=qd F2;have DQ:=qd v))
 all_goals first|exact bo (by simp[go_sem]) rfl ⟨kN ((P.trans L).trans C),rfl⟩|(refine bo (by simp[go_sem]) rfl ⟨kN ((P.trans L).trans C),rfl,md ((q9 C).size), ?_⟩;obtain⟨g',D,cap',cs',v⟩:=q9 DQ;exact⟨new,cs',g',D,cap',by have:=q9 V3;rwa [im]at this,q9 B,uq,v.c0,v.nodes⟩)
theorem yE(s:uj)(d:s.size<=140737488355328)(w:Ao):uo 51 #[Y s] w (xa w (qW s)):=by
 grind[qW,vee,qr3,vm2,qy0,qxz]
end Go.Proofs.YtmepkbgodcffoaaGreatDoor
