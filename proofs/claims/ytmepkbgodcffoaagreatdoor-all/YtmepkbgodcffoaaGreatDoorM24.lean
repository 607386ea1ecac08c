/- Selectors in parenthes -/
import Derived.Test.YtmepkbgodcffoaaGreatDoorM05
import Derived.ProofKit
import Derived.Deep.Slices
import Derived.Deep.Strs
import Derived.SizedLaws
import Derived.WideKeyArgs
import Derived.Laws.Rows
import Derived.Lib.SmallJoins
set_option maxHeartbeats 16000000
set_option maxRecDepth 100000
namespace Go.Proofs.YtmepkbgodcffoaaGreatDoor
open Go.RowKit Go.Proofs.Tryz
open _root_.List renaming length->A
open Bool renaming false->uh,true->ui
open Go.Addr renaming mk->D
open _root_.Array renaming size->Z,toList->T
open Go renaming Value->Ap,World->Ao
open Go.Ending renaming returned->Ak
open Go.IntKind renaming i64->J
open Go.Obj renaming cells->Al
open Go.Value renaming agg->Ai,bool->Ah,int->I,pointer->Ag,slice->C,string->Y,tuple->Aj
open Option renaming none->O,some->G
open Or renaming inl->Am,inr->An
variable{t:Ast}{s:uj}{pl:List MemPlace}{ps:List Pr}{L:List Tk}{r:uk}{cs:List Ap}{base c fuel n o:Nat}{a:Option Addr}{P:Program}{f g:TS->TRes}{ev:Ap}{W W' w:Ao}
theorem qb5(h:Lx r L):Lx (41::r) (qk 27::L):=by
 have b:qQ (41::r) 0=qk 27/\vq (41::r) 0=1:=by cases r<;>exact⟨rfl,rfl⟩
 exact .cons b.1 (show(27:Int)≠0 by decide) (by rwa[b.2])
theorem qj7(h:Lx r L):Lx (40::r) (qk 26::L):=by
 have b:qQ (40::r) 0=qk 26/\vq (40::r) 0=1:=by cases r<;>exact⟨rfl,rfl⟩
 exact .cons b.1 (show(26:Int)≠0 by decide) (by rwa[b.2])
theorem vux(h:Lx r L):Lx (65::78::68::32::r) (qk 5::L):=.cons (k:=qk 5) rfl (show(5:Int)≠0 by decide) (xe h)
theorem vwq(h:Lx r L):Lx (79::82::32::r) (qk 6::L):=.cons (k:=qk 6) rfl (show(6:Int)≠0 by decide) (xe h)
def En(r:TRes):Prop:=∀en,r=.err en->en=2\/en=3
def Nz(o:Nat)(f:TS->TRes):Prop:=∀ts,ts.op=o->En (f ts)/\∀t ts',f ts=.ok t ts'->ts'.op=o
theorem En.ok{ts:TS}:En (.ok t ts):=λ_ h=>by cases h
theorem En.two:En (.err 2):=by simp[En]
theorem En.three:En (.err 3):=by simp[En]
theorem Nz.join(h:Nz o f)(ts:TS)(l:Ast)(b:ts.op=o):En (qdk f ts l)/\∀t ts',qdk f ts l=.ok t ts'->ts'.op=o:=by
 grind[TS.next,qdk,Nz,En]
theorem Nz.loop(h:Nz o f)(ks:List Int):∀n l ts,ts.op=o->En (qbo f ks n l ts)/\∀t ts',qbo f ks n l ts=.ok t ts'->ts'.op=o:=by
 intro n
 induction n<;>grind[qbo,Nz.join,qdk,Nz,TS,En]
theorem Nz.row(h:Nz o f)(ks:List Int):Nz o (qvb f ks):=by
 grind[qvb,Nz.loop,Nz]
theorem Nz.sign(d:o<=12)(h:o<12->Nz (o+1) f)(n:Int)(ts:TS)(b:ts.op=o):En (qdl f n ts)/\∀t ts',qdl f n ts=.ok t ts'->ts'.op=o:=by
 grind[qdl,En.three,tIn,En.ok,Nz]
theorem Nz.group(d:o<=12)(h:o<12->Nz (o+1) f)(ts:TS)(b:ts.op=o):En (qaa f ts)/\∀t ts',qaa f ts=.ok t ts'->ts'.op=o:=by
 grind[qaa,En.three,tIn,En,En.two,Nz]
theorem Nz.signed(d:o<=12)(i:o<12->Nz (o+1) f)(j:o<12->Nz (o+1) g):Nz o (yG f g):=by
 intro ts b;unfold yG
 split
 .exact Nz.sign d i 14 ts b
 split
 .exact Nz.sign d i 15 ts b
 split
 .exact Nz.group d j ts b
 split
 .exact⟨En.ok,λ_ _ h=>by injection h with _ e;rw[<-e];exact b⟩
 split
 .exact⟨En.ok,λ_ _ h=>by injection h with _ e;rwa[<-e]⟩
 split
 .exact⟨En.ok,λ_ _ h=>by injection h with _ e;rwa[<-e]⟩
 split
 .exact⟨En.ok,λ_ _ h=>by injection h with _ e;rwa[<-e]⟩
 split
 exact⟨En.ok,λ_ _ h=>by injection h with _ e;rwa[<-e]⟩;exact⟨En.two,λ_ _ h=>by cases h⟩
theorem vct(l:Ast)(ts:TS)(b:ts.op=o):En (tIsNull l ts)/\∀t ts',tIsNull l ts=.ok t ts'->ts'.op=o:=by
 unfold tIsNull
 split
 split
 exact⟨En.ok,λ_ _ h=>by injection h with _ e;rwa[<-e]⟩
 grind[En.two]
 split
 exact⟨En.ok,λ_ _ h=>by injection h with _ e;rwa[<-e]⟩
 grind[TS,En]
theorem vcs(l:Ast):∀n xs ts,ts.op=o->A ts.toks<n->En (xC l n xs ts)/\∀t ts',xC l n xs ts=.ok t ts'->ts'.op=o:=by
 intro n
 induction n with
 | zero=>grind
 | succ n ih=>
  intro xs ts d i;rw[xC]
  by_cases R8:ts.tk.Q=28
  .rw[bs R8]
   have b:=qT uu R8
   have j:A ts.next.toks<A ts.toks:=by
    cases ht:ts.toks with
    | nil=>exact absurd ht b
    | cons a r=>show (A (ts.toks.tail))<_;rw[ht];simp
   split
   have:=qV ts.next;exact ih _ ts.next.next d uq
   grind[En]
  rw[ak R8]
  split
  exact⟨En.ok,λ_ _ h=>by injection h with _ e;rwa[<-e]⟩
  grind[En]
theorem vwv(l:Ast)(ts:TS)(b:ts.op=o):En (tInRes l ts)/\∀t ts',tInRes l ts=.ok t ts'->ts'.op=o:=by
 unfold tInRes
 split
 split
 have i:=qV ts;have e:=qV ts.next;have d:=qV ts.next.next;exact vcs l _ _ ts.next.next.next b uq
 grind[En]
 grind[En.two]
theorem vry(l:Ast)(ts:TS)(b:ts.op=o):En (tLike l ts)/\∀t ts',tLike l ts=.ok t ts'->ts'.op=o:=by
 unfold tLike
 split
 split
 split
 exact⟨En.ok,λ_ _ h=>by injection h with _ e;rwa[<-e]⟩
 grind[En.two]
 exact⟨En.ok,λ_ _ h=>by injection h with _ e;rwa[<-e]⟩
 grind[En.two]
theorem Nz.between(h:Nz o f)(l:Ast)(ts:TS)(b:ts.op=o):En (xI f l ts)/\∀t ts',xI f l ts=.ok t ts'->ts'.op=o:=by
 grind[xI,TS.next,En,Nz]
theorem Nz.keyword(h:Nz o f)(bare:Bool)(l:Ast)(ts:TS)(b:ts.op=o):En (zt f bare l ts)/\∀t ts',zt f bare l ts=.ok t ts'->ts'.op=o:=by
 unfold zt
 split
 .exact vwv l ts b
 split
 exact vry l ts b;exact h.between l ts b
theorem Nz.test(h:Nz o f):Nz o (qh0 f):=by
 intro ts d;obtain⟨i,e⟩:=h ts d;unfold qh0
 cases hf:f ts with
 | err en=>grind
 | ok l bG=>
  have b:=e _ _ hf;show En (qgz f _ l bG)/\∀t2 V4,qgz f _ l bG=TRes.ok t2 V4->_;unfold qgz
  split
  .exact h.join bG l b
  split
  .split
   exact vct l bG b
   grind
  split
  .grind[Nz.keyword,TS.next,En.ok]
  split
  exact h.keyword _ l bG b
  grind
theorem Nz.denied(b:o<=12)(e:o<12->Nz (o+1) f)(d:Nz o g):Nz o (ku f g):=by
 grind[ku,Nz.sign,Nz]
structure Nz3(o:Nat)(L:T3):Prop where
 S:Nz o L.S
 D:Nz o L.D
 E:Nz o L.E
theorem vv9(b:o<=12){L:T3}(h:o<12->Nz3 (o+1) L):Nz3 o (tUp L):=by
 have d:=Nz.signed b (λe=>(h e).S) (λe=>(h e).E);have j:=((d.row [24,25]).row [22,23]).test;have i:=Nz.denied b (λe=>(h e).D) j;exact⟨d,i,(i.row [5]).row [6]⟩
theorem vv8:∀d o,o+d=12->Nz3 o (vvv d):=by
 intro d
 induction d with
 | zero=>intro o h;exact vv9 uq (λe=>absurd e uq)
 | succ d ih=>intro o h;exact vv9 uq (λe=>ih (o+1) uq)
theorem vm{b pl:Int}(h:qW s=.err b pl):b=1\/b=2\/b=3\/b=4:=by
 unfold qW at h
 by_cases hs:s.size<=200
 rw[bs hs]at h;obtain⟨L,l⟩:=qj8 _ (T s.data) ux;have q:Str s (qh s st0) L:=qgf l st0 (bt _) (ee);have u:=qH s st0 (bt _);have j:=(qsz s 12).E (qh s st0) ⟨L,0⟩ u q rfl;obtain⟨v,st,ts,i,d,z,y,x⟩|⟨p,k,i,d⟩:=j.cases
 grind[qr3]
 rw[i]at h;injection h with m _;subst m;rcases((vv8 12 0 rfl).E ⟨L,0⟩ rfl).1 _ d with e|e;exact An (Am e)
 grind
 grind
def EvIn(w:Ao)(ev:Ap)(ps:List Pr):Prop:=
 (ps=[]/\∃a cap,ev=C a 0 cap)\/∃b off cap,ev=C (G (D b off O)) (A ps) cap/\A ps<=cap/\EvAt w b off ps/\b<Z w.1
theorem EvIn.h{w':Ao}(h:EvIn w ev ps)(d:Xb w w'):EvIn w' ev ps:=by
 obtain h|⟨b,off,cap,rfl,j,i,e⟩:=h;exact Am h;exact An ⟨b,off,cap,rfl,j,i.h d e,au e d.size⟩
theorem EvIn.slice(h:EvIn w ev ps):∃a n c,ev=C a n c:=by
 grind[EvIn]
theorem EvIn.arg(h:EvIn w ev ps)(b:A ps<=8):EvArg w ev ps:=by
 grind[EvIn,EvArg]
structure EvGood(ps:List Pr):Prop where
 short:qzc ps
 rng:qe5 ps
 len:A ps<=140737488355328
theorem qbx(h:EvIn w ev ps)(d:EvGood ps):
  lz 48 #[ev] w (Ah (zQ ps)):=by
 obtain⟨rfl,a,cap,rfl⟩|⟨b,off,cap,rfl,i,e,j⟩:=h;exact qt8 a cap w
 grind[qr4,EvGood]
theorem qu1(h:zQ ps=ui):A ps<=8:=by
 grind[qmj]
theorem vqk(h:zQ ps=ui){p:Pr}(hp:p∈ps):jW p.j=ui/\pY p.val=ui:=by
 obtain⟨k,b⟩:=db hp;unfold zQ at h;rw[dn,List.all_eq_true]at h;obtain⟨d,_⟩:=aj.1 b;have:=h.2 k (lj.2 d)
 grind[qgo]
theorem vga{v:V}(h:pY v=ui):A v.str<=20:=by
 grind[pY]
theorem qer(h:zQ ps=ui):vgm ps:=λp hp=>bu (vga (vqk h hp).2) uu
theorem pj(h:qW s=.ok t):qi9 t/\qi6 t:=⟨qcd vnv h,qcd vng h⟩
theorem qwi(s:uj)(hs:s.size<=140737488355328)(t:Ast)(B:qW s=.ok t)(ps:List Pr)(ev:Ap)(w:Ao)(U:ErrOk w)
  (Q:EvIn w ev ps) (K:EvGood ps) (b:Bool) (D:zQ ps=b) :
  lz 19 #[Y s,ev] w (Aj #[vV (cond b (ofA ps t) nV),I J (cond b 0 7),I J 0]):=by
 have RD:=qd (yT s (w.alloc (Al #[I J 0,I J 0,Y ⟨#[]⟩] 57)) (U.alloc _) hs);rw[B]at RD;have U9:=(Below.refl (Z w.1) w).alloc ux (Al #[I J 0,I J 0,Y ⟨#[]⟩] 57);have EVA:=qd (Q.h U9);obtain⟨a,n,c,rfl⟩:=Q.slice;have HV:=qd (λx (h:EvIn x (C a n c) ps)=>qbx h K);rw[D]at HV;cases b
 all_goals simp only[cond_true,cond_false]
 all_goals try(have y:∀F,qz9 F ps (C a n c) t:=λF=>vjs F ps _ K.rng (qer D) t (pj B).2 (pj B).1;have A6:A (ofA ps t).str<=281474976710656:=bu (qg7 (qer D) t (pj B).2) uu;have N:=qd y;have lM:=qd (qu1 D);obtain⟨r,G⟩:=ie (ofA ps t);rw[G]at A6 |-;have HR:=qd G;have BG:=qI r.str;have M5:(BS r.str).size<=281474976710656:=uq;clear y G A6 BG)
 all_goals clear B U K Q D
 all_goals go_enter func19,ntmps19
 all_goals go_wp2_with(first|(go_at_call 47;refine RD.mono ?_;rintro e x⟨u,v1,rfl,M⟩;obtain⟨vb,rfl⟩:=M.ptr;have B9:Z w.1<Z x.1:=(by have:=u.size;simp at this;omega);have BD:=qd (EVA.h u);have g:∀i,x.cell? ⟨Z w.1,i,O⟩=(#[I J 0,I J 0,Y ⟨#[]⟩]:Array Ap)[i]?:=(λi=>((qi u).1 _ i ur).trans ur);have T:Xf x (Z w.1):=(λj=>((qi u).2 _ j ur).trans ur);have I7:=qd (qg U9 u);have HU:=qd M;clear u M)|(go_at_call 48;refine be (HV _ BD) λw2 q=>?_;have D8:Z w.1<Z w2.1:=(md q.size);have MB:=qd (BD.h q);have k:∀i,w2.cell? ⟨Z w.1,i,O⟩=(#[I J 0,I J 0,Y ⟨#[]⟩]:Array Ap)[i]?:=(λi=>((qi q).1 _ i B9).trans (g i));have S:Xf w2 (Z w.1):=(λj=>((qi q).2 _ j B9).trans (T j));have mF:=qd (HU.P (Kept.x q));have X:=qd (qg I7 q);clear q g T)|(go_at_call 49;refine(N _ _ _ mF (MB.arg lM)).mono ?_;rw[q9 HR];rintro e d⟨rfl,E⟩;have S4:Z w.1<Z d.1:=(md E.size);have m:∀i,d.cell? ⟨Z w.1,i,O⟩=(#[I J 0,I J 0,Y ⟨#[]⟩]:Array Ap)[i]?:=(λi=>((qi E).1 _ i D8).trans (k i));have R:Xf d (Z w.1):=(λj=>((qi E).2 _ j D8).trans (S j));have iQ:=qd (qg X E);clear E k S;simp only[vV])|(refine be (qm4 (BS r.str) _ M5) λv l=>?_;have MG:Z d.1<Z v.1:=(by have:=l.size;simp at this;omega);have n:∀i,v.cell? ⟨Z w.1,i,O⟩=(#[I J 0,I J 0,Y ⟨#[]⟩]:Array Ap)[i]?:=(λi=>((qi l).1 _ i ut).trans (by rw[bj _ _ _ S4];exact m i));have z4:Xf v (Z w.1):=(λj=>((qi l).2 _ j ut).trans (by rw[iu _ _ _ S4];exact R j));have a:∀i,v.cell? ⟨Z d.1,i,O⟩=(#[I J r.Q,I J r.M,Y (BS r.str)]:Array Ap)[i]?:=(λi=>((qi l).1 _ i ur).trans ur);have z5:Xf v (Z d.1):=(λj=>((qi l).2 _ j ur).trans ur);have hne:¬Z d.1=Z w.1:=uq;have z:=qd (qg (kQ iQ _) l);clear l m R))
 all_goals first|(have _q:=z;refine bo (by simp[go_sem,n]<;>rfl) rfl ⟨rfl, ?_⟩;exact(((z.setCell ut _).setCell ur _).setCell ur _).setCell ur _)|(refine bo (by simp[go_sem,k]<;>rfl) rfl ⟨rfl, ?_⟩;exact((X.setCell ur _).setCell ur _).setCell ur _)
theorem qr6(s:uj)(m:s.size<=140737488355328)(i pl:Int)(k:qW s=.err i pl)(ev:Ap)(w:Ao)(l:ErrOk w)(z:∃a n c,ev=C a n c):
  lz 19 #[Y s,ev] w (Aj #[vV nV,I J i,I J pl]):=by
 have RD:=qd (yT s (w.alloc (Al #[I J 0,I J 0,Y ⟨#[]⟩] 57)) (l.alloc _) m);rw[k]at RD;have x:=(Below.refl (Z w.1) w).alloc ux (Al #[I J 0,I J 0,Y ⟨#[]⟩] 57);obtain⟨a,n,c,rfl⟩:=z;have B:(i != 0)=ui:=by obtain h|h|h|h:=vm k<;>rw[h]<;>rfl
 have D:(i==0)=uh:=by obtain h|h|h|h:=vm k<;>rw[h]<;>rfl
 clear k l;go_enter func19,ntmps19
 go_wp2_with(first|(refine RD.mono ?_;rintro e d⟨b,rfl⟩;have E:Z w.1<Z d.1:=(by have:=b.size;simp at this;omega);have v:Xc d (Z w.1) 0 (I J 0):=((qi b).1 _ 0 ur).trans ur;have u:Xc d (Z w.1) 1 (I J 0):=((qi b).1 _ 1 ur).trans ur;have q:Xc d (Z w.1) 2 (Y ⟨#[]⟩):=((qi b).1 _ 2 ur).trans ur;have A:Xf d (Z w.1):=(λj=>((qi b).2 _ j ur).trans ur);have y:=qd (qg x b);clear b))
 refine bo (by simp[go_sem,v,u,q]<;>rfl) rfl ⟨rfl, ?_⟩;exact((y.setCell ur _).setCell ur _).setCell ur _
structure Ans where
 val:V
 errno:Int
 U:Int
def xx(s:ByteArray)(ps:List Pr):Ans:=match qW s with
 | .err en pl=>⟨nV,en,pl⟩
 | .ok t=>if zQ ps then⟨ofA ps t,0,0⟩ else⟨nV,7,0⟩
theorem vi8(s:uj)(b:s.size<=140737488355328)(ps:List Pr)(ev:Ap)(w:Ao)(d:ErrOk w)(e:EvIn w ev ps)(h:EvGood ps):
  lz 19 #[Y s,ev] w (Aj #[vV (xx s ps).val,I J (xx s ps).errno,I J (xx s ps).U]):=by
 unfold xx
 cases F4:qW s with
 | err en pl=>exact qr6 s b en pl F4 ev w d e.slice
 | ok t=>cases E9:zQ ps<;>exact qwi s b t F4 ps ev w d e h _ E9
theorem vc5(h:Lx r L)(d:∀c,r.head?=G c->(c==39)=uh)(s:uk):Lx (39::(yK s++39::r)) (⟨4,0,s⟩::L):=by
 have hq:=vdg r d s
 have e:vY (39::(yK s++39::r))=⟨4,0,s⟩:=by
  unfold vY;rw[List.drop_succ_cons,ee,hq]
 have i:yL (39::(yK s++39::r))=A (yK s)+2:=by
  unfold yL;rw[List.drop_succ_cons,ee,hq]
 have b:qQ (39::(yK s++39::r)) 0=⟨4,0,s⟩/\vq (39::(yK s++39::r)) 0=A (yK s)+2:=by
  constructor
  .show vY (39::(yK s++39::r))=_
   exact e
  show 0+yL (39::(yK s++39::r))=_;omega
 refine .cons b.1 (show(4:Int)≠0 by decide) ?_;rw[b.2,List.drop_succ_cons];have:(yK s++39::r).drop (A (yK s)+1)=r:=by simp[List.drop_append]
 rwa[this]
section
open Go.ChangeShapes Go.WideShapes Go.ChangeAt Go.RowKit Go.Deep Go.Proofs.Tryz
theorem vhg:prog.cellsOf 57=3:=uw
theorem qdr:prog.cellsOf 9=1:=uw
theorem qtl:prog.cellsOf 3=1:=uw
theorem vhd:prog.cellsOf 2=1:=uw
theorem qm2:prog.bytesOf 89=48:=uw
section
variable {H:Type} {enc:TypeId×Ap->H}
theorem qvm{n:Int}(h:(Lit.int .i64 n).wf=ui):Rng n:=by
 simp only[Lit.wf,dn,fw]at h;exact⟨h.1,h.2⟩
theorem vcy{z:Nat->Bool}{x:DataW H×List MemPlace}(h:DataW.trod enc prog W base z ui n 89 cs=G x):
  ∃(b st:uj) (k m:Int),cs=[.string b,.int .i64 k,.int .i64 m,.string st]/\x=(.agg [.lit (.string (T b.data)),.agg [.lit (.int .i64 k),.lit (.int .i64 m),.lit (.string (T st.data))]],[])/\Rng m:=by
 obtain⟨M,K,Q,rfl,A,l,j⟩:=trod_struct2 underlying89 h
 match cs,A with
 | [c0,c1,c2,c3],_=>
  simp only[qdr,vhg,List.drop,List.take]at l j;obtain⟨b,v,rfl,_⟩:=DataW.trod_string underlying9 l;obtain⟨F,E,B,N,rfl,_,i,e,d⟩:=trod_struct3 underlying57 j;simp only[qtl,vhd,qdr,List.drop,List.take]at i e d;obtain⟨k,u,rfl,_⟩:=DataW.trod_int underlying3 i;obtain⟨m,q,rfl,y⟩:=DataW.trod_int underlying2 e;obtain⟨st,p,rfl,_⟩:=DataW.trod_string underlying9 d;simp only[List.cons.injEq,and_true]at v u q p;subst v u q p;exact⟨b,st,k,m,rfl,rfl,qvm y⟩
theorem qas{e:TypeId}{d:DataW H}:∀{l:List (DataW H)},d∈l->∀n∈d.weights P e,n∈DataW.weightsAll P e l:=by
 intro l
 induction l<;>grind[DataW.weightsAll]
theorem qpr(b st:uk)(k m:Int):(DataW.agg [.lit (.string b),.agg [.lit (.int .i64 k),.lit (.int .i64 m),.lit (.string st)]]:DataW H).weights prog 89=[A b,A st]:=by
 constructor<;>grind
theorem qjm{d:DataW H}(Y:DataW.trod enc prog W 0 (λ_=>ui) ui fuel 32 cs=G (d,pl))
  (X:∀n∈d.weights prog 32,n<=reachBytes):∃v ps,cs=[v]/\EvIn W v ps/\EvGood ps:=by
 obtain⟨F,K⟩|⟨a,len0,IF,m,n,D,Pl,F,_,hl,hm,J,K,Y6⟩:=open_slice underlying32 Y;exact⟨_,[],F,Am ⟨rfl,O,0,rfl⟩,⟨(λp hp=>by cases hp),(λp hp=>by cases hp),bt _⟩⟩;simp only[if_true]at J;subst J;obtain⟨rfl,rfl⟩:=K;refine⟨.slice (G a) len0 m, ?_⟩
 suffices hgoal:∃ps,EvIn W (.slice (G a) len0 m) ps/\EvGood ps by
  obtain⟨ps,I,e⟩:=hgoal;exact⟨ps,F,I,e⟩
 have each:∀i,i<len0->∃p:Pr,(W.cell? (a.add (i * 4))=G (.string (BS p.j))/\W.cell? (a.add (i * 4+1))=G (.int .i64 p.val.Q)/\W.cell? (a.add (i * 4+2))=G (.int .i64 p.val.M)/\W.cell? (a.add (i * 4+3))=G (.string (BS p.val.str)))/\Rng p.val.M /\
   D i=.agg [.lit (.string p.j),.agg [.lit (.int .i64 p.val.Q),.lit (.int .i64 p.val.M),.lit (.string p.val.str)]]:=by
  intro i hi;obtain⟨cs',I,e⟩:=Y6 i uq;obtain⟨S,st,k,U,rfl,B,hr⟩:=vcy e;simp only[Prod.mk.injEq]at B;obtain⟨_,_,E⟩:=World.cells?_some I;have c0:=E 0 uu;have y:=E 1 uu;have x:=E 2 uu;have u:=E 3 uu;rw[add_add]at c0 y x u;exact⟨⟨T S.data,⟨k,U,T st.data⟩⟩,⟨c0,y,x,u⟩,hr,B.1⟩
 have inh:Inhabited Pr:=⟨⟨[],nV⟩⟩;obtain⟨f,z⟩:=choose_lt each
 have Q:∀(k:Nat) (p:Pr),((List.range len0).map f)[k]?=G p->k<len0/\p=f k:=by
  grind
 have N:A ((List.range len0).map f)=len0:=by grind
 have M:∀p∈(List.range len0).map f,∃k,k<len0/\p=f k:=by
  grind
 have C:=X;rw[DataW.weights,underlying32]at C;simp only[ep,cr]at C;refine⟨(List.range len0).map f, ?_,⟨?_, ?_, ?_⟩⟩
 cases len0 with
 | zero=>grind[EvIn]
 | succ l=>
  right
  obtain⟨b,off,spot⟩:=a
  have Z:spot=O:=by
   have:=World.cell?_spot (z 0 uq).1.1;simpa [Addr.add]using this
  subst Z;have K5:∀j,(⟨b,off,O⟩:Addr).add j=⟨b,off+j,O⟩:=by intro j;simp[Addr.add]
  refine⟨b,off,_,by rw[N],by rwa[N], ?_, ?_⟩;intro k p q;obtain⟨A5,rfl⟩:=Q k p q;obtain⟨⟨c0,y,x,u⟩,_,_⟩:=z k A5;rw[K5]at c0 y x u;exact⟨c0,y,x,u⟩
  grind[World.cell?]
 intro p hp;obtain⟨k,q,rfl⟩:=M p hp;have B:=(z k q).2.2;have R:D k∈(List.range len0).map D:=eh.2 ⟨k,lj.2 q,rfl⟩;have e:=λn hn=>C n (An (Am (qas R n hn)))
 rw[B,qpr]at e;have e1:=e _ (by simp:A (f k).j∈[A (f k).j,A (f k).val.str]);have e2:=e _ (by simp:A (f k).val.str∈[A (f k).j,A (f k).val.str]);unfold reachBytes at e1 e2;exact⟨uq,uq⟩;intro p hp;obtain⟨k,q,rfl⟩:=M p hp;exact(z k q).2.1;have:=C _ (Am rfl);rw[qm2,cf,lp]at this;unfold reachBytes at this;omega
end
end
section
open Go.ChangeShapes Go.WideShapes Go.ChangeAt Go.RowKit Go.Deep Go.Proofs.Tryz
structure Ox where
 Q:Int
 n:Int
 id:Int
 K:List UInt8
 la:Option Addr
 lc:Nat
 ts:List (List UInt8)
 ev:Ap
 ps:List Pr
def TxIn(W:Ao)(a:Option Addr)(ts:List (List UInt8)):Prop:=
 ∀(k:Nat) (s:List UInt8),ts[k]?=G s->A s<=140737488355328/\∃sb so,a=G (D sb so O)/\sb<Z W.1/\W.cell? ⟨sb,so+k,O⟩=G (Y (BS s))
structure OxOk(W:Ao)(x:Ox):Prop where
 K:A x.K<=140737488355328
 Q:Rng x.Q
 n:Rng x.n
 id:Rng x.id
 tx:TxIn W x.la x.ts
 tl:16 * A x.ts<=140737488355328
 tc:A x.ts<=x.lc
 ev:EvIn W x.ev x.ps
 good:EvGood x.ps
 el:48 * A x.ps<=140737488355328
theorem TxIn.h{ts:List uk}(h:TxIn W a ts)(b:Xb W W'):TxIn W' a ts:=λk s i=>by
 obtain⟨m,sb,e,l,d,j⟩:=h k s i;exact⟨m,sb,e,l,au d b.size,((qi b).1 _ _ d).trans j⟩
theorem OxOk.h{x:Ox}(h:OxOk W x)(b:Xb W W'):OxOk W' x:=by grind[EvIn.h,TxIn.h,OxOk]
def qfk(x:Ox):List Ap:=[I J x.Q,I J x.n,I J x.id,Y (BS x.K),C x.la (A x.ts) x.lc,x.ev]
def oxV(x:Ox):Ap:=Ai #[I J x.Q,I J x.n,I J x.id,Y (BS x.K),C x.la (A x.ts) x.lc,x.ev]
def OpsAt(W:Ao)(v:Ap)(l:List Ox):Prop:=
 ∃a cap,v=C a (A l) cap/\A l<=cap/\88 * A l<=140737488355328/\∀(i:Nat) (x:Ox),l[i]?=G x->OxOk W x/\∃b off,a=G (D b off O)/\b<Z W.1/\∀k,k<6->W.cell? ⟨b,off+i * 6+k,O⟩=(qfk x)[k]?
theorem va6:prog.cellsOf 34=6:=uw
theorem vhc:prog.cellsOf 32=1:=uw
theorem vq7:prog.cellsOf 31=1:=uw
theorem vq3:prog.bytesOf 34=88:=uw
theorem vha:prog.bytesOf 9=16:=uw
section
variable {H:Type} {enc:TypeId×Ap->H}
theorem qpj{spare:Nat->Bool}{b:Bool}{t:TypeId}{m l k j i e:Field}{x:DataW H×List MemPlace}(q:P.underlying t=G (.struct #[m,l,k,j,i,e]))(h:DataW.trod enc P w base spare b fuel t cs=G x):
  ∃y0 y1 y2 y3 y4 y5 n,x.1=.agg [y0.1,y1.1,y2.1,y3.1,y4.1,y5.1]/\A cs=P.cellsOf t/\DataW.trod enc P w base spare b n m.type ((cs.drop m.offset).take (P.cellsOf m.type))=G y0 /\
   DataW.trod enc P w base spare b n l.type ((cs.drop l.offset).take (P.cellsOf l.type))=G y1/\DataW.trod enc P w base spare b n k.type ((cs.drop k.offset).take (P.cellsOf k.type))=G y2 /\
   DataW.trod enc P w base spare b n j.type ((cs.drop j.offset).take (P.cellsOf j.type))=G y3/\DataW.trod enc P w base spare b n i.type ((cs.drop i.offset).take (P.cellsOf i.type))=G y4 /\
   DataW.trod enc P w base spare b n e.type ((cs.drop e.offset).take (P.cellsOf e.type))=G y5:=by
 obtain⟨xs,n,_,rfl,u,v,d⟩:=DataW.trod_struct q h
 match xs,v with
 | [y0,y1,y2,y3,y4,y5],_=>exact⟨y0,y1,y2,y3,y4,y5,n,ur,u,by simpa using d 0 m rfl,by simpa using d 1 l rfl,by simpa using d 2 k rfl,by simpa using d 3 j rfl,by simpa using d 4 i rfl,by simpa using d 5 e rfl⟩
theorem qjn{d:DataW H}(J:DataW.trod enc prog W 0 (λ_=>ui) ui fuel 31 cs=G (d,pl))
  (I:∀n∈d.weights prog 31,n<=reachBytes):∃a ts c,cs=[.slice a (A ts) c]/\TxIn W a ts/\16 * A ts<=140737488355328/\A ts<=c:=by
 obtain⟨z,x⟩|⟨a,len0,IF,m,n,D,Pl,z,_,Y,X,E,x,Q⟩:=open_slice underlying31 J;exact⟨O,[],0,z,(λk s h=>by simp at h),bt _,bt _⟩;simp only[if_true]at E;obtain⟨rfl,rfl⟩:=x;have l:=I;rw[DataW.weights,underlying31]at l;simp only[ep,cr]at l
 have each:∀i,i<len0->∃s:uk,A s<=140737488355328/\W.cell? (a.add i)=G (.string (BS s)):=by
  intro i M;obtain⟨cs',e,v⟩:=Q i uq;obtain⟨st,h3,Z,_⟩:=DataW.trod_string underlying9 v;have C:D i∈(List.range len0).map D:=eh.2 ⟨i,lj.2 M,rfl⟩;have N:D i=.lit (.string (T st.data)):=by grind
  have U:A (T st.data)<=reachBytes:=l _ (An (Am (qas C _ (by rw[N];simp[DataW.weights]))));obtain⟨_,_,S⟩:=World.cells?_some e;have c0:=S 0 uu;rw[add_add]at c0;unfold reachBytes at U;exact⟨T st.data,uq,by grind[vpl]⟩
 obtain⟨f,y⟩:=choose_lt each;have B:A ((List.range len0).map f)=len0:=by grind
 refine⟨G a,(List.range len0).map f,_,by rwa[B],λk s u=>?_, ?_,by rwa[B]⟩;rw[cj]at u
 cases hr:(List.range len0)[k]? with
 | none=>grind
 | some j=>
  rw[hr]at u;obtain⟨e,v⟩:=aj.1 hr;rw[lp]at e;subst v;obtain rfl:f k=s:=by simpa using u
  obtain⟨F,q⟩:=y k e;obtain⟨b,off,spot⟩:=a
  have K:spot=O:=by
   have:=World.cell?_spot (y 0 uq).2;simpa [Addr.add]using this
  subst K;have R:(⟨b,off,O⟩:Addr).add k=⟨b,off+k,O⟩:=by simp[Addr.add]
  rw[R]at q;exact⟨F,b,off,rfl,block_lt_of_cell q,q⟩
 have:=l _ (Am rfl);rw[vha,cf,lp]at this;unfold reachBytes at this;omega
theorem vau{d:DataW H}(j:DataW.trod enc prog W 0 (λ_=>ui) ui fuel 32 [.slice a n c]=G (d,pl))
  (i:∀n∈d.weights prog 32,n<=reachBytes):48 * n<=140737488355328:=by
 obtain⟨b,h⟩|⟨u,len0,x,m,l,D,Pl,b,_,q,p,k,h,v⟩:=open_slice underlying32 j;simp at b;omega;simp at b;obtain⟨rfl,rfl,rfl⟩:=b;obtain⟨rfl,rfl⟩:=h;have e:=i;rw[DataW.weights,underlying32]at e;simp only[ep,cr]at e;have:=e _ (Am rfl);rw[qm2,cf,lp]at this;unfold reachBytes at this;omega
theorem qz0(tx:uk)(k m i:Int)(d b:DataW H):(DataW.agg [.lit (.int .i64 k),.lit (.int .i64 m),.lit (.int .i64 i),.lit (.string tx),d,b]:DataW H).weights prog 34=A tx::(d.weights prog 31++b.weights prog 32):=by
 rw[DataW.weights,underlying34];simp only[List.map,DataW.weightsEach,DataW.weights];simp
theorem EvIn.len(h:EvIn W (C a n c) ps):A ps=n:=by
 grind[EvIn]
theorem vs6{d:DataW H}(h:DataW.trod enc prog W 0 (λ_=>ui) ui n 34 cs=G (d,pl))(b:∀n∈d.weights prog 34,n<=reachBytes):
  ∃x:Ox,cs=qfk x/\OxOk W x:=by
 obtain⟨y0,y1,y2,y3,N,M,n1,Z,hl,z,y,u,q,p,j⟩:=qpj underlying34 h
 match cs,hl with
 | [c0,c1,c2,c3,c4,c5],_=>
  simp only[qtl,qdr,vhc,vq7,List.drop,List.take]at z y u q p j;obtain⟨k,K,rfl,R⟩:=DataW.trod_int underlying3 z;obtain⟨m,F,rfl,Q⟩:=DataW.trod_int underlying3 y;obtain⟨i,E,rfl,S⟩:=DataW.trod_int underlying3 u;obtain⟨tx,B,rfl,_⟩:=DataW.trod_string underlying9 q;obtain⟨d4,p4⟩:=N;obtain⟨d5,p5⟩:=M;subst Z;rw[qz0]at b;have U:=b _ (eu ..);obtain⟨a,ts,c,A,V5,U0,X⟩:=qjn p λm e=>b m (fe _ (List.mem_append_left _ e))
  obtain⟨v,ps,hv,l,hg⟩:=qjm j λm e=>b m (fe _ (List.mem_append_right _ e))
  simp only[List.cons.injEq,and_true]at K F E B A hv;subst K F E B A hv;unfold reachBytes at U;obtain⟨ea,en,ec,rfl⟩:=l.slice;have oG:=vau j λm e=>b m (fe _ (List.mem_append_right _ e))
  exact⟨⟨k,m,i,T tx.data,a,c,ts,.slice ea en ec,ps⟩,rfl,⟨by grind,qvm R,qvm Q,qvm S,V5,U0,X,l,hg,by rwa[l.len]⟩⟩
theorem vjx{v:Ap}{d:DataW H}(N:Value.okWide prog W .any base 22 v)(h:DataW.Trod enc prog W 0 (λ_=>ui) ui 22 v d pl)
  (Q:∀n∈d.weights prog 22,n<=reachBytes):∃l,OpsAt W v l:=by
 obtain⟨fuel,R⟩:=h;obtain⟨a0,len0,IF,rfl⟩:=okWide_slice underlying22 N;obtain⟨e,B⟩|⟨a,len,cap,m,n,D,Pl,e,_,hl,Z,M,B,F⟩:=open_slice underlying22 R;simp[Value.cells]at e;obtain⟨rfl,rfl,rfl⟩:=e;exact⟨[],O,0,rfl,bt _,bt _,λi x q=>by simp at q⟩;simp[Value.cells]at e;obtain⟨rfl,rfl,rfl⟩:=e;subst M;obtain⟨rfl,rfl⟩:=B;rw[va6]at F;have u:=Q;rw[DataW.weights,underlying22]at u;simp only[ep,cr]at u
 have each:∀i,i<len0->∃x:Ox,OxOk W x/\∀k,k<6->W.cell? (a.add (i * 6+k))=(qfk x)[k]?:=by
  intro i q;obtain⟨cs',z,U⟩:=F i uq;have K:D i∈(List.range len0).map D:=eh.2 ⟨i,lj.2 q,rfl⟩;obtain⟨x,rfl,ok⟩:=vs6 U λn T=>u n (An (Am (qas K n T)))
  obtain⟨_,_,Y⟩:=World.cells?_some z;refine⟨x,ok,λk y=>?_⟩;have c:=Y k y;rw[add_add]at c;rw[c]
 have inh:Inhabited Ox:=⟨⟨0,0,0,[],O,0,[],.slice O 0 0,[]⟩⟩;obtain⟨f,C⟩:=choose_lt each;have I:A ((List.range len0).map f)=len0:=by grind
 have J:∀(k:Nat) (p:Ox),((List.range len0).map f)[k]?=G p->k<len0/\p=f k:=by
  grind
 refine⟨(List.range len0).map f,G a,_,by rw[I],by rwa[I], ?_,λi x q=>?_⟩;have:=u _ (Am rfl);rw[vq3,cf,lp]at this;unfold reachBytes at this;omega;obtain⟨z,rfl⟩:=J i x q;obtain⟨ok,e⟩:=C i z;obtain⟨b,off,spot⟩:=a
 have S:spot=O:=by
  have:=(C 0 uq).2 0 uq;have:=World.cell?_spot this;simpa [Addr.add]using this
 subst S;have X:∀j,(⟨b,off,O⟩:Addr).add j=⟨b,off+j,O⟩:=by intro j;simp[Addr.add]
 have E:∀k,k<6->W.cell? ⟨b,off+i * 6+k,O⟩=(qfk (f i))[k]?:=λk y=>by
  have:=e k y;rwa[X,<-Nat.add_assoc]at this
 exact⟨ok,b,off,rfl,block_lt_of_cell (E 0 uq),E⟩
end
end
theorem qyt(le q:Int)(m:Nat->Ao->Prop)(w:Ao)(v:Ap)(l:List Ox)(hl:OpsAt w v l)(h0:m 0 (w.alloc (Al #[C O 0 0,C O 0 0] 30)))(F7:∀k W,m k W->Xb w W)(aU:∀k W W',m k W->Xb W W'->m k W')(u:∀k W,m k W->m (k+1) W)
  (cR:∀k W x,k<A l->m k W->OxOk w x->((le<=x.Q/\x.Q<=q)\/(5<=x.Q/\5<=q))->uo 7 #[Ag (G ⟨Z w.1,0,O⟩),oxV x] W λe W'=>e=Ak (Ah ui)/\m (k+1) W')
  (d:∀k W,k<=A l->m k W->uo 8 #[Ag (G ⟨Z w.1,0,O⟩)] W λe W'=>e=Ak (Ah ui)/\m k W') :
  uo 5 #[v,I J le,I J q] w λe w'=>e=Ak (I J (-1))/\m (A l) w':=by
 obtain⟨a,cap,rfl,aM,fH,NK⟩:=hl;obtain⟨n,T⟩:=ie (A l);rw[T]at aM fH cR d |-;have HN:=qd T;have HO:=qd NK;have H0:=qd h0;have Q:=qd F7;have AU:=qd aU;have N:=qd u;have tI:=qd cR;have RY:=qd d;clear T NK h0 F7 aU cR d u;go_enter func5,ntmps5
 go_wp2
 go_loopw [8] (λi wr=>∃k:Nat,k<=n/\i=I J k/\Hid (m k wr)) (λi _=>n - (intOf i).toNat)
 exact⟨0,bt _,rfl,H0⟩;clear H0;obtain⟨k,hk,rfl,B⟩:=hrel
 by_cases A1:k<n
 .obtain⟨x,hx⟩:∃x,l[k]?=G x:=⟨_,ag (md (q9 HN))⟩
  obtain⟨ok,b,off,rfl,hb,hc⟩:=q9 HO k x hx;have dV:=q9 Q _ _ B;have bD:b<Z wr.1:=md dV.size
  have z:∀j,j<6->wr.cell? ⟨b,off+k * 6+j,O⟩=(qfk x)[j]?:=λj hj=>((qi dV).1 _ _ hb).trans (hc j hj)
  have W9:∃F D E,x.ev=C F D E:=ok.ev.slice;obtain⟨kind,nn,id,text,S,R,ts,ev,ps⟩:=x;obtain⟨F,D,E,A7⟩:=W9;simp only at A7;subst A7;obtain⟨lt,L5⟩:=ie (A ts);have c0:Xc wr b (off+k * 6) (I J kind):=z 0 uq;have c1:Xc wr b (off+k * 6+1) (I J nn):=z 1 uq;have c2:Xc wr b (off+k * 6+2) (I J id):=z 2 uq;have c3:Xc wr b (off+k * 6+3) (Y (BS text)):=z 3 uq;have c4:Xc wr b (off+k * 6+4) (C S (A ts) R):=z 4 uq;have c5:Xc wr b (off+k * 6+5) (C F D E):=z 5 uq;have UW:=(Below.refl (Z wr.1) wr).alloc ux (Al #[I J kind,I J nn,I J id,Y (BS text),C S (A ts) R,C F D E] 34);have HW:=qd (AU _ _ _ B UW);have LKS:Hid (∀W,m (k+1) W->uo 8 #[Ag (G ⟨Z w.1,0,O⟩)] W λe W'=>e=Ak (Ah ui)/\m (k+1) W'):=qd λW h=>q9 RY (k+1) W uq h
  have STP:Hid (((le<=kind/\kind<=q)\/(5<=kind/\5<=q))->∀W,m k W->uo 7 #[Ag (G ⟨Z w.1,0,O⟩),Ai #[I J kind,I J nn,I J id,Y (BS text),C S (A ts) R,C F D E]] W λe W'=>e=Ak (Ah ui)/\m (k+1) W'):=qd λhh W y=>q9 tI k W ⟨kind,nn,id,text,S,R,ts,C F D E,ps⟩ A1 y ok hh
  rw[L5]at c4 HW STP;have HWM:=qd (N _ _ HW);have Z9:=it k;have A5:=je k n;have nb:¬b=Z wr.1:=uq;clear hx ok hc dV z UW HO tI AU Q N RY L5
  by_cases J5:(le<=kind/\kind<=q)\/(5<=kind/\5<=q)
  .have STP:=qd (STP J5)
   rcases(show(le<=kind/\kind<=q)\/(le<=kind/\¬kind<=q/\¬kind<5/\¬q<5)\/(¬le<=kind/\¬kind<5/\¬q<5) by omega) with⟨y,X⟩|⟨y,X,M,U⟩|⟨y,M,U⟩
   all_goals
    clear J5
    go_wp2_with(first|(go_at_call 7;refine be (STP _ HW) λw2 MM=>?_;have VV:=qd MM;clear MM)|(refine be (LKS _ VV) λw3 K=>?_;have HW3:=qd K;clear K))
    go_roundw
    case rel=>exact⟨k+1,uq,by go_num,HW3⟩
    simp[intOf];omega
  clear STP;rcases(show(le<=kind/\¬kind<=q/\kind<5)\/(le<=kind/\¬kind<=q/\¬kind<5/\q<5)\/(¬le<=kind/\kind<5)\/(¬le<=kind/\¬kind<5/\q<5) by omega) with⟨y,X,M⟩|⟨y,X,M,U⟩|⟨y,M⟩|⟨y,M,U⟩
  all_goals
   clear J5
   go_wp2
   go_roundw
   case rel=>exact⟨k+1,uq,by go_num,HWM⟩
   simp[intOf];omega
 have uF:=jl k n;have bC:k=n:=uq
 go_wp2
 go_ret;exact⟨rfl,bC ▸ q9 B⟩
end Go.Proofs.YtmepkbgodcffoaaGreatDoor
