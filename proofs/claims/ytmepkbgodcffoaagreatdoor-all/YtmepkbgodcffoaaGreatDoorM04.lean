/- test -/
import Derived.Test.YtmepkbgodcffoaaGreatDoorM03
import Derived.Test.YtmepkbgodcffoaaGreatDoorM17
import Derived.Defers
import Derived.Recover
import Derived.Laws.Pointers
set_option maxHeartbeats 4000000
namespace Go.Proofs.YtmepkbgodcffoaaGreatDoor
open Go.RowKit Go.Proofs.Tryz
open _root_.List renaming length->A
open Go.World renaming setCell->B
open Bool renaming false->uh,true->ui
open Go.Addr renaming mk->D
open _root_.Array renaming size->Z,toList->T
open Go renaming Value->Ap,World->Ao
open Go.Ending renaming returned->Ak
open Go.IntKind renaming i64->J
open Go.Obj renaming cells->Al
open Go.Value renaming agg->Ai,bool->Ah,int->I,pointer->Ag,slice->C,string->Y,tuple->Aj
open Option renaming none->O,some->G
open Or renaming inl->Am,inr->An
variable{s:uj}{ps:List Pr}{L:List Tk}{lo rb:Nat}{p:Pay}{st:St}{f:St->Res}{ev:Ap}{a w w':Ao}
theorem qyq(rb:Nat)(s:uj)(op:Nat)(f:St->Res)(c b:Ast->St->Res)(j:xm 226 rb s op f)(n:qkw 251 rb s op 11 c)(m:qkw 252 rb s op 12 b):
  xm 207 rb s op (zH s f c b):=by
 intro w st h i
 cases D4:f st with
 | err en pl=>
  have d:zH s f c b st=.err en pl:=by unfold zH;rw[D4]
  rw[d];obtain⟨c0,z,y,x,c4,v,u,fz⟩:=h.at';have H:=qd h;have q:=qd j;have o:=qd D4;cases G9:(st.tk.Q==2)
  all_goals
   go_enter func207,ntmps207
   go_wp2_with(refine(q _ st H i).mono ?_;rintro e t⟨r,k⟩;rw[q9 o]at k;subst k;simp only[vg])
   exact⟨rfl,r,rfl⟩
 | ok l A9=>
  have d:zH s f c b st=zG s f c b (qc5 st l) l A9:=by unfold zH;rw[D4]
  rw[d];exact vfs ⟨j,n,m,h,i,D4⟩
structure L3 where
 S:St->Res
 D:St->Res
 E:St->Res
def vvf(s:ByteArray)(S:St->Res):St->Res:=zj s S [24,25]
def vx1(s:ByteArray)(S:St->Res):St->Res:=zj s (vvf s S) [22,23]
def vpa(s:ByteArray)(S:St->Res):St->Res:=zH s (vx1 s S) (y7 s) (vB s)
def vhv(s:ByteArray)(D:St->Res):St->Res:=zj s (zj s D [5]) [6]
def up3(s:ByteArray)(L:L3):L3:=⟨jc s L.S L.E,jM s L.D (vpa s (jc s L.S L.E)),vhv s (jM s L.D (vpa s (jc s L.S L.E)))⟩
def lvl(s:ByteArray):Nat->L3
 | 0=>up3 s ⟨λ_=>.err 0 0,λ_=>.err 0 0,λ_=>.err 0 0⟩
 | d+1=>up3 s (lvl s d)
structure Reads3(rb:Nat)(s:ByteArray)(op:Nat)(L:L3):Prop where
 S:xm 286 rb s op L.S
 D:xm 168 rb s op L.D
 E:xm 80 rb s op L.E
theorem qpm(rb:Nat)(s:uj)(b:s.size<=200)(op:Nat)(e:op<=12)(L:L3)(h:op<12->Reads3 rb s (op+1) L):Reads3 rb s op (up3 s L):=by
 have c:xm 286 rb s op (jc s L.S L.E):=qpb rb s op e L.S L.E (λk=>(h k).S) (λk=>(h k).E);have l:=qjs rb s op _ c;have i:=vfj rb s op _ l;have j:=qyq rb s op _ _ _ i (vip rb s op b) (qx2 rb s op b);have d:=qmd rb s op e L.D _ (λk=>(h k).D) j;exact⟨c,d,qme rb s op _ (qvy rb s op _ d)⟩
theorem vc0(rb:Nat)(s:uj)(b:s.size<=200):∀(d op:Nat),op+d=12->Reads3 rb s op (lvl s d):=by
 intro d
 induction d with
 | zero=>intro op h;exact qpm rb s b op uq _ (λk=>uq)
 | succ d ih=>intro op h;exact qpm rb s b op uq _ (λ_=>ih (op+1) uq)
structure QC(s:ByteArray)(Q:Ast->Prop)(ua:Tk->Prop):Prop where
 len:s.size<=200
 tk:∀st,ua (qh s st).tk
 lf:∀st,ua st.tk->(st.tk.Q=2->Q (gM 0 st 0 st.tk.str))/\Q (gM 1 st st.tk.M [])/\Q (gM 2 st 0 st.tk.str)/\Q (gM 3 st 0 [])/\Q (gM 4 st 0 [])
 un:∀op pl x,op=5\/op=14\/op=15\/op=23->Q x->Q (.un ⟨op,pl,0,[],[],[]⟩ x)
 bin:∀st x y,Q x->Q y->Q (vq1 st x y)
 tri:∀pl x y z,Q x->Q y->Q z->Q (.tri ⟨20,pl,0,[],[],[]⟩ x y z)
 am:∀pl ts x,A ts<=1000->(∀t∈ts,∃k,ua k/\t=k.str)->Q x->Q (.un ⟨21,pl,0,[],[],ts⟩ x)
 lk:∀pl k e x,ua k->(e=[]\/A e=1/\(xo e k.str).isSome=ui)->Q x->Q (.un ⟨22,pl,0,k.str,e,[]⟩ x)
section
variable {s:uj} {Q:Ast->Prop} {ua:Tk->Prop} {f g:St->Res} {ks:List Int}
def GQ(Q:Ast->Prop)(ua:Tk->Prop)(f:St->Res):Prop:=∀st t st',ua st.tk->f st=.ok t st'->Q t/\ua st'.tk
def GQT(Q:Ast->Prop)(ua:Tk->Prop)(g:Ast->St->Res):Prop:=∀l st t st',Q l->ua st.tk->g l st=.ok t st'->Q t/\ua st'.tk
theorem GQ.join(h:GQ Q ua f)(c:QC s Q ua):∀st l t st',Q l->jX s f st l=.ok t st'->Q t/\ua st'.tk:=by
 grind[jX,GQ,QC]
theorem GQ.loop(h:GQ Q ua f)(c:QC s Q ua):∀n,GQT Q ua (ju s f ks n):=by
 intro n
 induction n with
 | zero=>intro l st t e d i b;cases b;exact⟨d,i⟩
 | succ n ih=>
  intro l st t e d i b;rw[ju]at b
  split at b
  split at b
  rename_i j;have:=h.join c _ _ _ _ d j;exact ih _ _ _ _ this.1 this.2 b;cases b;cases b;exact⟨d,i⟩
theorem GQ.row(h:GQ Q ua f)(c:QC s Q ua):GQ Q ua (zj s f ks):=by
 intro st t d e b;unfold zj at b
 split at b
 rename_i i;have:=h _ _ _ e i;exact h.loop c _ _ _ _ _ this.1 this.2 b;cases b
theorem GQ.sign(h:GQ Q ua f)(c:QC s Q ua)(o:Int)(i:o=5\/o=14\/o=15\/o=23):GQ Q ua (vP s f o):=by
 intro st t d _ b;unfold vP at b
 split at b
 cases b
 split at b<;>cases b
 rename_i e;have:=h (p9 s st) _ _ (c.tk st) e;exact⟨c.un _ _ _ i this.1,this.2⟩
theorem GQ.group(h:GQ Q ua f)(c:QC s Q ua):GQ Q ua (vG s f):=by
 intro st t d _ b;unfold vG at b
 split at b
 cases b
 split at b
 rename_i e;split at b<;>cases b
 exact⟨(h (p9 s st) _ _ (c.tk st) e).1,c.tk _⟩;cases b
theorem GQ.signed(e:GQ Q ua f)(o:GQ Q ua g)(c:QC s Q ua):GQ Q ua (jc s f g):=by
 intro st t i d b;obtain⟨n,m,l,k,j⟩:=c.lf st d;unfold jc at b
 split at b
 .exact e.sign c 14 ur _ _ _ d b
 split at b
 .exact e.sign c 15 ur _ _ _ d b
 split at b
 .exact o.group c _ _ _ d b
 split at b
 .rename_i h2;cases b;exact⟨n h2,c.tk st⟩
 repeat' split at b
 all_goals cases b
 exact⟨m,c.tk st⟩;exact⟨l,c.tk st⟩;exact⟨k,c.tk st⟩;exact⟨j,c.tk st⟩
theorem vbb(c:QC s Q ua):GQT Q ua (jy s):=by
 intro l st t e i _ b;have d:=c.un 23 st.U l ur i;unfold jy at b
 repeat' split at b
 all_goals cases b
 exact⟨c.un _ _ _ ur d,c.tk _⟩;exact⟨d,c.tk _⟩
theorem vba(c:QC s Q ua){l:Ast}{j:Nat}(m:Q l):∀n ts st t b,A ts+n<=1000->(∀t∈ts,∃k,ua k/\t=k.str)->xr s l j n ts st=.ok t b->Q t/\ua b.tk:=by
 intro n
 induction n with
 | zero=>intro ts st t b _ _ d;cases d
 | succ n ih=>
  intro ts st t b o i d;rw[xr]at d
  split at d
  split at d
  refine ih _ _ _ _ ut (λx e=>?_) d;obtain e|e:=cr.1 e;exact i x e;exact⟨_,c.tk st,dd.1 e⟩;cases d
  split at d<;>cases d
  exact⟨c.am _ _ _ uq i m,c.tk _⟩
theorem vwj(c:QC s Q ua):GQT Q ua (y7 s):=by
 intro l st t d i _ b;have:=c.len;unfold y7 at b
 split at b
 split at b
 exact vba c i _ _ _ _ _ ut (λx e=>⟨_,c.tk _,dd.1 e⟩) b;cases b;cases b
theorem qwg{c:Tk}{d:Nat}{str:uk}{b:St}(h:qa2 s c d st=.ok str b):A str=1/\(xo str c.str).isSome=ui:=by
 unfold qa2 at h
 repeat' split at h
 all_goals cases h
 exact⟨by assumption,by assumption⟩
theorem vqr(c:QC s Q ua):GQT Q ua (vB s):=by
 intro l st t h d _ b;unfold vB at b
 split at b
 split at b
 split at b<;>cases b
 rename_i e;rw[(qeq e).2];exact⟨c.lk _ _ _ _ (c.tk st) (An (qwg e)) d,c.tk _⟩;cases b;exact⟨c.lk _ _ _ _ (c.tk st) (Am rfl) d,c.tk _⟩;cases b
theorem GQ.between(h:GQ Q ua f)(c:QC s Q ua):GQT Q ua (qY s f):=by
 intro l st t e i _ d;unfold qY at d
 split at d
 split at d
 rename_i k;split at d
 split at d<;>cases d
 rename_i j;have b:=h _ _ _ (c.tk _) j;exact⟨c.tri _ _ _ _ i (h _ _ _ (c.tk _) k).1 b.1,b.2⟩;cases d;cases d;cases d
theorem GQ.keyword(h:GQ Q ua f)(c:QC s Q ua)(bare:Bool):GQT Q ua (vD s f (y7 s) (vB s) bare):=by
 intro l st t i e d b;unfold vD at b
 split at b
 .exact vwj c _ _ _ _ e d b
 split at b
 exact vqr c _ _ _ _ e d b;exact h.between c _ _ _ _ e d b
theorem GQ.test(h:GQ Q ua f)(c:QC s Q ua):GQ Q ua (zH s f (y7 s) (vB s)):=by
 intro st t i j b;unfold zH at b
 split at b
 rename_i k;obtain⟨d,e⟩:=h _ _ _ j k;unfold zG at b
 split at b
 .exact h.join c _ _ _ _ d b
 split at b
 .split at b
  exact vbb c _ _ _ _ d e b
  grind
 split at b
 .split at b<;>cases b
  rename_i l;have:=h.keyword c _ _ _ _ _ d (c.tk _) l;exact⟨c.un _ _ _ ur this.1,this.2⟩
 split at b
 exact h.keyword c _ _ _ _ _ d e b
 grind
 cases b
theorem GQ.denied(j:GQ Q ua f)(i:GQ Q ua g)(c:QC s Q ua):GQ Q ua (jM s f g):=by
 intro st t e d b;unfold jM at b
 split at b
 exact j.sign c 5 ur _ _ _ d b;exact i _ _ _ d b
theorem vnn(c:QC s Q ua):∀d,GQ Q ua (lvl s d).S/\GQ Q ua (lvl s d).D/\GQ Q ua (lvl s d).E:=by
 have up:∀L:L3,GQ Q ua L.S/\GQ Q ua L.D/\GQ Q ua L.E->GQ Q ua (up3 s L).S/\GQ Q ua (up3 s L).D/\GQ Q ua (up3 s L).E:=λL h=>by
  have b:=h.1.signed h.2.2 c;have e:=h.2.1.denied (((b.row c (ks:=[24,25])).row c (ks:=[22,23])).test c) c;exact⟨b,e,(e.row c (ks:=[5])).row c (ks:=[6])⟩
 intro d
 induction d with
 | zero=>exact up _ ⟨(λ_ _ _ _ h=>by cases h),(λ_ _ _ _ h=>by cases h),(λ_ _ _ _ h=>by cases h)⟩
 | succ d ih=>exact up _ ih
end
theorem vj6(s:uj)(H:s.size<=200)(st:St)(t:Ast)(e:St)(j:(lvl s 12).E st=.ok t e):WfA t:=by
 have c:QC s WfA (λ_=>True):=⟨H,λ_=>trivial,λ_ _=>by simp[gM,WfA],λop _ _ k i=>⟨by grind,i⟩,λ_ _ _ a b=>⟨a,b⟩,λ_ _ _ _ a b d=>⟨ur,a,b,d⟩,λ_ _ _ _ _ h=>⟨ur,h⟩,λ_ _ _ _ _ _ h=>⟨ur,h⟩⟩;exact((vnn c 12).2.2 _ _ _ trivial j).1
theorem qvz(h d b:Addr)(w:Ao):
  CallsD prog 78 #[Ag (G h),Ag (G d),Ag (G b)] .returning w λe i w'=>e=Ak (Aj #[])/\i=.returning/\w'=w:=by
 refine callsD_of_wpS func78 rfl λc₀ cs j=>?_
 apply wpS_seq;apply wpS_region;simp[wpOpsS,go_sem,recoverD,j,ntmps78,Exit.thenS];refine wpS_of_wp ?_;rw[show(#[Ag (G h),Ag (G d),Ag (G b)]++(Array.replicate 13 undef).setIfInBounds 3 Value.nilIface)=#[Ag (G h),Ag (G d),Ag (G b),undef,undef,undef,Value.nilIface,undef,undef,undef,undef,undef,undef,undef,undef,undef] from rfl]
 go_wp2
 refine⟨rfl,.returning, ?_,_,results_none rfl _ _ _,rfl,rfl,rfl⟩;cases c₀
 simp_all
theorem vh3(v:Ap)(w:Ao):(Instr.typeAssert (.iface 151 v) 20 151 ui).run prog w=.ok (Aj #[v,Ah ui]) w:=uw
theorem vi2(v:Ap)(w:Ao):(binOp .eql 20 (.iface 151 v) .nilIface).run prog w=.ok (Ah uh) w:=uw
theorem yx(b:Nat)(l k j:Ap)(i d:Int)(older:List PanicEntry)(w:Ao)(A:b+2<Z w.1)(r:w.cell? (D b 0 O)=G l)(q:w.cell? ⟨b+1,0,O⟩=G k)(o:w.cell? ⟨b+2,0,O⟩=G j)
  (E:w.frozen? (D b 0 O)=uh) (C:w.frozen? ⟨b+1,0,O⟩=uh) (B:w.frozen? ⟨b+2,0,O⟩=uh) :
  CallsD prog 78 #[Ag (G (D b 0 O)),Ag (G ⟨b+1,0,O⟩),Ag (G ⟨b+2,0,O⟩)] (.panicking ({ v:=.iface 151 (Ai #[I J i,I J d]),recovered:=uh }::older)) w λe m w'=>
   e=Ak (Aj #[])/\m=.panicking ({ v:=.iface 151 (Ai #[I J i,I J d]),recovered:=ui }::older) /\
   w'.cell? (D b 0 O)=G (Ag O)/\w'.cell? ⟨b+1,0,O⟩=G (I J i)/\w'.cell? ⟨b+2,0,O⟩=G (I J d)/\Below b w w':=by
 refine callsD_of_wpS func78 rfl λc₀ cs n=>?_
 apply wpS_seq;apply wpS_region;simp[wpOpsS,go_sem,recoverD,n,ntmps78,Exit.thenS];refine wpS_of_wp ?_;rw[show(#[Ag (G (D b 0 O)),Ag (G ⟨b+1,0,O⟩),Ag (G ⟨b+2,0,O⟩)]++(Array.replicate 13 undef).setIfInBounds 3 (.iface 151 (Ai #[I J i,I J d])))=#[Ag (G (D b 0 O)),Ag (G ⟨b+1,0,O⟩),Ag (G ⟨b+2,0,O⟩),undef,undef,undef,.iface 151 (Ai #[I J i,I J d]),undef,undef,undef,undef,undef,undef,undef,undef,undef] from rfl];have z:=vh3;have hq:=vi2;have n0:b<Z w.1:=uq;have t:b+1<Z w.1:=uq;have y:¬Z w.1=b:=uq;have x:¬Z w.1=b+1:=uq;have u:¬Z w.1=b+2:=uq
 go_wp2
 go_region
 all_goals refine⟨rfl,.panicking ({ v:=.iface 151 (Ai #[I J i,I J d]),recovered:=ui }::older), ?_,_,results_none rfl _ _ _,rfl,rfl, ?_, ?_, ?_, ?_⟩
 cases c₀
 simp_all
 .rw[ll,bj _ _ _ ut];simp[go_sem,r]
 .rw[ll,bj _ _ _ ut];simp[go_sem,q]
 .rw[ll,bj _ _ _ ut];simp[go_sem,o]
 exact(((((Below.refl b w).setCell ux _).setCell ur _).setCell ur _).alloc ut _).drew
structure Above(lo:Nat)(w w':Ao):Prop where
 size:w.1.size<=w'.1.size
 block:∀k,lo<k->k<w.1.size->w'.1[k]?=w.1[k]?
theorem Kept.above(h:Kept rb w w'):Above rb w w':=by grind[Kept,Above]
theorem Above.trans{b c:Ao}(h:Above lo a b)(k:Above lo b c):Above lo a c:=by grind[Above]
theorem Above.setCell(h:Above lo a w){p:Addr}(hp:p.block<=lo)(u:Ap):Above lo a (B w p u):=by
 grind[size_setCell,Below.heap_setCell,Above]
theorem Above.cell(h:Above lo w w'){g:Nat}(c:lo<g)(b:g<Z w.1)(j:Nat):w'.cell? (D g j O)=w.cell? (D g j O):=by grind[World.cell?_of_block,Above]
theorem TextsAt.keptA(b:Above lo w w'){v:Ap}{ts:List uk}(h:TextsAt lo w v ts):TextsAt lo w' v ts:=by
 grind[Above.cell,TextsAt,Above]
theorem NodeAt.keptA(c:Above lo w w'){b:Nat}{sides:Ap}(h:NodeAt lo w b p sides):NodeAt lo w' b p sides:=by
 grind[Above.cell,TextsAt.keptA,NodeAt,Above]
theorem IsNode.above(b:Above lo w w'):∀{t:Ast} {v:Ap},IsNode lo w v t->IsNode lo w' v t:=by
 have d:=λg j (c:lo<g) (h2:g<Z w.1)=>b.cell c h2 j
 intro t
 induction t<;>grind[NodeAt.keptA,IsNode,Above]
inductive RRes where
 | ok (t:Ast)
 | err (en pl:Int)
def st0:St:=⟨⟨0,0,[]⟩,0,0,0⟩
def qr3(t:Ast)(st:St):RRes:=if st.tk.Q=0 then(match qz3 (qC t) with
 | none=>.ok t
 | some q=>.err 4 q) else .err 2 st.U
def qW(s:ByteArray):RRes:=if s.size<=200 then(match (lvl s 12).E (qh s st0) with
 | .err en pl=>.err en pl
 | .ok t st=>qr3 t st) else .err 1 0
def qdo(w:Ao)(r:RRes)(e:Ending)(w':Ao):Prop:=Below (Z w.1) w w'/\match r with
 | .ok t=>∃v,e=Ak (Aj #[v,I J 0,I J 0])/\IsNode (Z w.1+3) w' v t
 | .err en pl=>e=Ak (Aj #[Ag O,I J en,I J pl])
theorem Kept.h{c:Nat}(h:Kept rb w w')(b:Below c a w)(i:c<=rb)(e:c<=Z w.1):Below c a w':=
 ⟨h.os.trans b.os,h.tape.trans b.tape,h.output.trans b.output,bu b.size h.size,λk d=>(h.block k uq uq).trans (b.block k d)⟩
def begun(w:Ao)(s:ByteArray):Ao:=(((w.alloc (Al #[Ag O] 91)).alloc (Al #[I J 0] 58)).alloc (Al #[I J 0] 3)).alloc (Al #[Y s,I J 0,I J 0,I J 0,Y ⟨#[]⟩,I J 0,I J 0] 156)
theorem pI(w:Ao)(s:uj):Z (begun w s).1=Z w.1+4:=by simp[begun]
theorem qq9(w:Ao)(s:uj):Xb w (begun w s):=(jK w _ _ _).alloc ut _
theorem qqa(w:Ao)(s:uj):(begun w s).cell? ⟨Z w.1,0,O⟩=G (Ag O)/\(begun w s).cell? ⟨Z w.1+1,0,O⟩=G (I J 0)/\(begun w s).cell? ⟨Z w.1+2,0,O⟩=G (I J 0) /\
  (begun w s).frozen? ⟨Z w.1,0,O⟩=uh/\(begun w s).frozen? ⟨Z w.1+1,0,O⟩=uh/\(begun w s).frozen? ⟨Z w.1+2,0,O⟩=uh:=by
 unfold begun;refine⟨?_, ?_, ?_, ?_, ?_, ?_⟩;rw[bj _ _ _ uv,bj _ _ _ uv,bj _ _ _ ur,ce _ _ _ _ rfl];rfl;rw[bj _ _ _ uv,bj _ _ _ ur,ce _ _ _ _ ur];rfl;rw[bj _ _ _ ur,ce _ _ _ _ ur];rfl;rw[iu _ _ _ uv,iu _ _ _ uv,iu _ _ _ ur,iq _ _ _ _ rfl];rw[iu _ _ _ uv,iu _ _ _ ur,iq _ _ _ _ ur];rw[iu _ _ _ ur,iq _ _ _ _ ur]
theorem vvk(w:Ao)(s:uj):RdAt (w.alloc (Al #[Y s,I J 0,I J 0,I J 0,Y ⟨#[]⟩,I J 0,I J 0] 156)) (Z w.1) s st0:=
 ⟨ur,by simp[st0],by simp[st0],by simp[st0],by simp[st0,BS],by simp[st0],by simp[st0],λj=>ur⟩
theorem vh4(w:Ao)(s:uj):RdAt (begun w s) (Z w.1+3) s st0:=by
 have b:Z w.1+3=Z (((w.alloc (Al #[Ag O] 91)).alloc (Al #[I J 0] 58)).alloc (Al #[I J 0] 3)).1:=ur;rw[b];exact vvk _ s
theorem qm0(w:Ao)(s:uj)(h:ErrOk w):ErrOk (begun w s):=(((h.alloc _).alloc _).alloc _).alloc _
theorem qqb(w:Ao)(s:uj)(h:ErrOk w)(b:s.size<=200):Ready (Z w.1+3) s (begun w s) st0:=
 ⟨vh4 w s,by rw[pI];omega,qm0 w s h,md h.1,⟨bt _,bt _,λh=>absurd rfl h⟩,uq⟩
theorem qpw:Rng 0:=by simp[Rng]
theorem qra(l:uk):Rng (vk l).M:=by
 unfold vk
 split
 exact qpw
 split
 .unfold jk;split<;>exact qpw
 split
 .unfold yj;split
  grind[Rng]
  exact qpw
 split
 unfold vY;split<;>exact qpw
 exact qpw
theorem vfb(s:uj)(st:St):Rng (qh s st).tk.M:=by
 show Rng (qQ (T s.data) st.H).M;unfold qQ
 split
 exact qra _;exact qpw
def qi9:Ast->Prop
 | .leaf p=>Rng p.M
 | .un p x=>Rng p.M/\qi9 x
 | .bin p x y=>Rng p.M/\qi9 x/\qi9 y
 | .tri p x y z=>Rng p.M/\qi9 x/\qi9 y/\qi9 z
theorem vnv(H:s.size<=200):QC s qi9 λk=>Rng k.M:=
 ⟨H,vfb s,λ_ h=>⟨λ_=>qpw,h,qpw,qpw,qpw⟩,λ_ _ _ _ h=>⟨qpw,h⟩,λ_ _ _ a b=>⟨qpw,a,b⟩,λ_ _ _ _ a b c=>⟨qpw,a,b,c⟩,λ_ _ _ _ _ h=>⟨qpw,h⟩,λ_ _ _ _ _ _ h=>⟨qpw,h⟩⟩
def nextB(p:Pc)(t:List UInt8)(e:Nat->Bool):Nat->Bool
 | 0=>p.Q==2&&e 0
 | j+1=>if p.Q==2 then e (j+1)||nextB p t e j else if p.Q==1 then e j else e j&&t.getD j 0==p.c
def kZ(ps:List Pc)(t:List UInt8)(e:Nat->Bool):Bool:=match ps with
 | []=>e (A t)
 | p::r=>kZ r t (nextB p t e)
def qmo(pat esc t:List UInt8):Bool:=match xo esc pat with
 | none=>uh
 | some ps=>kZ ps t λj=>j==0
def qb4(x:V)(pat esc:List UInt8):V:=if x.Q==3 then bV (qmo pat esc x.str) else nV
def kx(x:V)(ts:List (List UInt8)):V:=ts.foldl (λf t=>orV f (eqV x (tV t))) (bV uh)
def jn(p:Pay)(x y z:V):V:=
 if p.op=20 then qib (leV y x) (leV x z) else if p.op=21 then kx x p.i else if p.op=22 then qb4 x p.str p.esc else jP p.op x y
def ofN(ps:List Pr)(p:Pay)(s:List V):V:=
 if p.op=0 then yA ps p.str else if p.op=1 then iV p.M else if p.op=2 then tV p.str else if p.op=3 then bV ui else if p.op=4 then bV uh
 else jn p (s.getD 0 nV) (s.getD 1 nV) (s.getD 2 nV)
def ofA(ps:List Pr):Ast->V
 | .leaf p=>ofN ps p []
 | .un p x=>ofN ps p [ofA ps x]
 | .bin p x y=>ofN ps p [ofA ps x,ofA ps y]
 | .tri p x y z=>ofN ps p [ofA ps x,ofA ps y,ofA ps z]
theorem qd3(ps:List Pr)(t:Ast):ofA ps t=ofN ps (qZ t) ((qw t).map (ofA ps)):=by cases t<;>rfl
theorem qal(b:Bool):Rng (bV b).M:=by cases b<;>exact⟨uu,uu⟩
theorem pX:Rng nV.M:=⟨uu,uu⟩
theorem qk9{n:Int}(h:yh n=ui):Rng (iV n).M:=by
 simp[yh]at h;exact h
theorem qsi(x:V):Rng (yR x).M:=by grind[yR,qal,pX]
theorem ve5(x y:V):Rng (qib x y).M:=by grind[qib,qal,pX]
theorem vp3(x y:V):Rng (orV x y).M:=by grind[orV,qal,pX]
theorem vvo(x y:V):Rng (eqV x y).M:=by grind[eqV,pX,qal]
theorem qv2(x y:V):Rng (kC x y).M:=by grind[kC,qal,pX]
theorem vp2(x y:V):Rng (leV x y).M:=by grind[leV,qal,pX]
theorem ve3(x y:V):Rng (qpt x y).M:=by
 grind[qpt,qk9,pX]
theorem ve7(x y:V):Rng (qym x y).M:=by
 grind[qym,qk9,pX]
theorem vsv(x y:V):Rng (qpv x y).M:=by
 grind[qpv,qk9,pX]
theorem vsu(x y:V):Rng (qwf x y).M:=by
 grind[qwf,qk9,pX]
theorem zb{c:Prop}[Decidable c]{a b:V}(e:Rng a.M)(d:Rng b.M):Rng (if c then a else b).M:=by
 grind
theorem qv1(op:Int)(x y:V):Rng (jP op x y).M:=by
 exact zb (qsi _) (zb (ve5 _ _) (zb (vp3 _ _) (zb (vvo _ _) (zb (qsi _) (zb (qv2 _ _) (zb (qv2 _ _) (zb (vp2 _ _) (zb (vp2 _ _) (zb (ve3 _ _) (zb (ve3 _ _) (zb (ve7 _ _) (zb (ve7 _ _) (zb (vsv _ _) (zb (vsu _ _) (qal _)))))))))))))))
theorem ve4(x:V)(ts:List uk):∀f:V,Rng f.M->Rng (ts.foldl (λf t=>orV f (eqV x (tV t))) f).M:=by
 induction ts<;>grind[vp3]
theorem ve6(p:Pay)(x y z:V):Rng (jn p x y z).M:=by
 unfold jn
 split
 .exact ve5 _ _
 split
 .exact ve4 x _ _ (qal _)
 grind[qb4,qal,pX,qv1]
def qe5(ps:List Pr):Prop:=∀p∈ps,Rng p.val.M
theorem qv0(h:qe5 ps)(n:uk):Rng (yA ps n).M:=by
 grind[yA,pX,qe5]
theorem qny(h:qe5 ps)(hp:Rng p.M)(s:List V):Rng (ofN ps p s).M:=by
 unfold ofN
 split
 .exact qv0 h _
 split
 .exact hp
 split
 .exact qpw
 grind[qal,ve6]
theorem qco(h:qe5 ps):∀t,qi9 t->Rng (ofA ps t).M:=by
 intro t
 cases t with
 | leaf p=>intro b;exact qny h b _
 | un p x=>intro b;exact qny h b.1 _
 | bin p x y=>intro b;exact qny h b.1 _
 | tri p x y z=>intro b;exact qny h b.1 _
def EvArg(w:Ao)(ev:Ap)(ps:List Pr):Prop:=
 A ps<=8/\((ps=[]/\∃a cap,ev=C a 0 cap)\/∃b off cap,ev=C (G (D b off O)) (A ps) cap/\EvAt w b off ps/\b<Z w.1)
theorem EvArg.h(h:EvArg w ev ps)(c:Xb w w'):EvArg w' ev ps:=by
 refine⟨h.1, ?_⟩;obtain h|⟨b,off,cap,rfl,e,d⟩:=h.2;exact Am h;exact An ⟨b,off,cap,rfl,e.h c d,au d c.size⟩
theorem EvArg.slice(h:EvArg w ev ps):∃a n c,ev=C a n c:=by
 grind[EvArg]
theorem qu2(h:EvArg w ev ps)(s:uj):
  lz 86 #[ev,Y s] w (vV (yA ps (T s.data))):=by
 obtain⟨rfl,a,cap,rfl⟩|⟨b,off,cap,rfl,c,d⟩:=h.2;exact qwk a cap s w
 grind[vib,EvArg]
def vwa(p:Pay):Pay:={ p with U:=0 }
def xw:Ast->Ast
 | .leaf p=>.leaf (vwa p)
 | .un p x=>.un (vwa p) (xw x)
 | .bin p x y=>.bin (vwa p) (xw x) (xw y)
 | .tri p x y z=>.tri (vwa p) (xw x) (xw y) (xw z)
theorem qnd(t:Ast):opA (xw t)=opA t:=by cases t<;>rfl
structure TS where
 toks:List Tk
 op:Nat
inductive TRes where
 | ok (t:Ast) (ts:TS)
 | err (en:Int)
def hd(L:List Tk):Tk:=match L with
 | []=>qk 0
 | k::_=>k
def TS.tk(ts:TS):Tk:=hd ts.toks
def TS.next(ts:TS):TS:=⟨ts.toks.tail,ts.op⟩
def qdk(f:TS->TRes)(ts:TS)(l:Ast):TRes:=match f ts.next with
 | .ok r ts'=>.ok (.bin ⟨qgs ts.tk.Q,0,0,[],[],[]⟩ l r) ts'
 | .err en=>.err en
def qbo(f:TS->TRes)(ks:List Int):Nat->Ast->TS->TRes
 | 0,l,ts=>.ok l ts
 | n+1,l,ts=>if ks.contains ts.tk.Q then(match qdk f ts l with
   | .ok l' ts'=>qbo f ks n l' ts'
   | .err en=>.err en) else .ok l ts
def qvb(f:TS->TRes)(ks:List Int)(ts:TS):TRes:=match f ts with
 | .ok l ts'=>qbo f ks (A ts'.toks+1) l ts'
 | .err en=>.err en
def tIn(ts:TS):TS:=⟨ts.toks.tail,ts.op+1⟩
def qdl(f:TS->TRes)(o:Int)(ts:TS):TRes:=if ts.op=12 then .err 3 else match f (tIn ts) with
 | .ok x ts'=>.ok (.un ⟨o,0,0,[],[],[]⟩ x) ⟨ts'.toks,ts.op⟩
 | .err en=>.err en
def qaa(f:TS->TRes)(ts:TS):TRes:=if ts.op=12 then .err 3 else match f (tIn ts) with
 | .ok t ts'=>if ts'.tk.Q=27 then .ok t ⟨ts'.toks.tail,ts.op⟩ else .err 2
 | .err en=>.err en
def qt1(o:Int)(num:Int)(str:List UInt8):Ast:=.leaf ⟨o,0,num,str,[],[]⟩
def yG(fS fE:TS->TRes)(ts:TS):TRes:=
 if ts.tk.Q=22 then qdl fS 14 ts else if ts.tk.Q=23 then qdl fS 15 ts else if ts.tk.Q=26 then qaa fE ts
 else if ts.tk.Q=2 then .ok (qt1 0 0 ts.tk.str) ts.next
 else if ts.tk.Q=3 then .ok (qt1 1 ts.tk.M []) ts.next
 else if ts.tk.Q=4 then .ok (qt1 2 0 ts.tk.str) ts.next
 else if ts.tk.Q=8 then .ok (qt1 3 0 []) ts.next
 else if ts.tk.Q=9 then .ok (qt1 4 0 []) ts.next else .err 2
def vvw(l:Ast):Ast:=.un ⟨23,0,0,[],[],[]⟩ l
def tIsNull(l:Ast)(ts:TS):TRes:=
 if ts.next.tk.Q=7 then(if ts.next.next.tk.Q=15 then .ok (.un ⟨5,0,0,[],[],[]⟩ (vvw l)) ts.next.next.next else .err 2)
 else if ts.next.tk.Q=15 then .ok (vvw l) ts.next.next else .err 2
def xI(f:TS->TRes)(l:Ast)(ts:TS):TRes:=if ts.tk.Q=10 then(match f ts.next with
  | .ok lo bG=>if bG.tk.Q=5 then(match f bG.next with
    | .ok hi V4=>.ok (.tri ⟨20,0,0,[],[],[]⟩ l lo hi) V4
    | .err en=>.err en) else .err 2
  | .err en=>.err en) else .err 2
def xC(l:Ast):Nat->List (List UInt8)->TS->TRes
 | 0,_,_=>.err 0
 | n+1,xs,ts=>if ts.tk.Q=28 then(if ts.next.tk.Q=4 then xC l n (xs++[ts.next.tk.str]) ts.next.next else .err 2)
   else if ts.tk.Q=27 then .ok (.un ⟨21,0,0,[],[],xs⟩ l) ts.next else .err 2
def tInRes(l:Ast)(ts:TS):TRes:=
 if ts.next.tk.Q=26 then(if ts.next.next.tk.Q=4 then xC l (A ts.toks+1) [ts.next.next.tk.str] ts.next.next.next else .err 2) else .err 2
def tLike(l:Ast)(ts:TS):TRes:=
 if ts.next.tk.Q=4 then
  (if ts.next.next.tk.Q=13 then
   (if ts.next.next.next.tk.Q=4/\A ts.next.next.next.tk.str=1/\(xo ts.next.next.next.tk.str ts.next.tk.str).isSome=ui
    then .ok (.un ⟨22,0,0,ts.next.tk.str,ts.next.next.next.tk.str,[]⟩ l) ts.next.next.next.next else .err 2)
  else .ok (.un ⟨22,0,0,ts.next.tk.str,[],[]⟩ l) ts.next.next)
 else .err 2
def zt(f:TS->TRes)(bare:Bool)(l:Ast)(ts:TS):TRes:=
 if ts.tk.Q=11/\bare=ui then tInRes l ts else if ts.tk.Q=12/\bare=ui then tLike l ts else xI f l ts
def qgz(f:TS->TRes)(bare:Bool)(l:Ast)(ts:TS):TRes:=
 if ts.tk.Q=16\/ts.tk.Q=17\/ts.tk.Q=18\/ts.tk.Q=19\/ts.tk.Q=20\/ts.tk.Q=21 then qdk f ts l
 else if ts.tk.Q=14 then(if bare=ui then tIsNull l ts else .ok l ts)
 else if ts.tk.Q=7 then(match zt f bare l ts.next with
  | .ok t ts'=>.ok (.un ⟨5,0,0,[],[],[]⟩ t) ts'
  | .err en=>.err en)
 else if ts.tk.Q=10\/ts.tk.Q=11\/ts.tk.Q=12 then zt f bare l ts
 else .ok l ts
def qh0(f:TS->TRes)(ts:TS):TRes:=match f ts with
 | .ok l ts'=>qgz f (ts.tk.Q==2&&opA l==0) l ts'
 | .err en=>.err en
def ku(fD fT:TS->TRes)(ts:TS):TRes:=if ts.tk.Q=7 then qdl fD 5 ts else fT ts
structure T3 where
 S:TS->TRes
 D:TS->TRes
 E:TS->TRes
def tUp(L:T3):T3:=
 ⟨yG L.S L.E,ku L.D (qh0 (qvb (qvb (yG L.S L.E) [24,25]) [22,23])),qvb (qvb (ku L.D (qh0 (qvb (qvb (yG L.S L.E) [24,25]) [22,23]))) [5]) [6]⟩
def vvv:Nat->T3
 | 0=>tUp ⟨λ_=>.err 0,λ_=>.err 0,λ_=>.err 0⟩
 | d+1=>tUp (vvv d)
inductive Str (s:ByteArray):St->List Tk->Prop where
 | nil {st:St} (h:st.tk=qk 0):Str s st []
 | cons {st:St} {L:List Tk} (h:st.tk.Q≠0) (r:Str s (qh s st) L):Str s st (st.tk::L)
theorem Str.tk(h:Str s st L):hd L=st.tk:=by
 cases h with
 | nil h=>exact h.symm
 | cons _ _=>rfl
theorem Str.next(h:Str s st L)(b:st.tk.Q≠0):Str s (qh s st) L.tail:=by
 cases h with
 | nil h=>rw[h]at b;exact absurd rfl b
 | cons _ r=>exact r
theorem Str.withOp(h:Str s st L)(n:Nat):Str s { st with op:=n } L:=by
 induction h generalizing n with
 | nil h=>exact .nil h
 | cons h r ih=>
  rename_i st L;exact .cons (st:={ st with op:=n }) h (ih n)
theorem Str.len(h:Str s st L):Fine s st->A L<=s.size - st.U:=by
 induction h<;>grind[Fine.next,Fine.lt,Fine]
def SimR(s:ByteArray):Res->TRes->Prop
 | .ok t st,.ok t' ts=>xw t=t'/\Str s st ts.toks/\st.op=ts.op/\Fine s st
 | .err en _,.err en'=>en=en'
 | _,_=>False
def Sim(s:ByteArray)(f:St->Res)(f':TS->TRes):Prop:=∀st ts,Fine s st->Str s st ts.toks->st.op=ts.op->SimR s (f st) (f' ts)
theorem SimR.cases{r:Res}{b:TRes}(h:SimR s r b):(∃t st ts,r=.ok t st/\b=.ok (xw t) ts/\Str s st ts.toks/\st.op=ts.op/\Fine s st)\/∃en pl,r=.err en pl/\b=.err en:=by
 cases r with
 | ok t st=>
  cases b with
  | ok t' ts=>grind[SimR]
  | err en=>exact h.elim
 | err en pl=>
  cases b with
  | ok t' ts=>exact h.elim
  | err en'=>grind[SimR]
theorem jo{ts:TS}(h:Str s st ts.toks):ts.tk=st.tk:=h.tk
theorem Sim.join{e:TS->TRes}(h:Sim s f e)(st:St)(ts:TS)(l:Ast)(k:Fine s st)(b:Str s st ts.toks)(i:st.op=ts.op)(j:st.tk.Q≠0):SimR s (jX s f st l) (qdk e ts (xw l)):=by
 have:=h (qh s st) ts.next k.next (b.next j) i;unfold jX qdk;rw[jo b];obtain⟨t,v,u,d,c,o,n,m⟩|⟨r,q,d,c⟩:=this.cases
 .rw[d,c];exact⟨rfl,o,n,m⟩
 all_goals grind
def Shr(f:TS->TRes):Prop:=∀ts t ts',f ts=.ok t ts'->A ts'.toks<=A ts.toks
def vu3(g:Ast->TS->TRes):Prop:=∀l ts t ts',g l ts=.ok t ts'->A ts'.toks<=A ts.toks
theorem qcx(L:List Tk):A L.tail<=A L:=ur
theorem qV(ts:TS):A ts.next.toks<=A ts.toks:=qcx _
theorem Shr.join{f:TS->TRes}(h:Shr f)(ts:TS)(l t:Ast)(b:TS)(c:qdk f ts l=.ok t b):A b.toks<=A ts.next.toks:=by
 grind[qdk,Shr]
theorem Shr.loop{f:TS->TRes}(h:Shr f)(ks:List Int):∀n l ts t b,qbo f ks n l ts=.ok t b->A b.toks<=A ts.toks:=by
 intro n
 induction n with
 | zero=>grind[qbo]
 | succ n ih=>
  intro l ts t b c;rw[qbo]at c
  split at c
  split at c
  rename_i d;exact bu (ih _ _ _ _ c) (bu (h.join _ _ _ _ d) (qV _));cases c
  grind
theorem Shr.row{f:TS->TRes}(h:Shr f)(ks:List Int):Shr (qvb f ks):=by
 intro ts t c b;unfold qvb at b
 split at b
 rename_i d;exact bu (h.loop ks _ _ _ _ _ b) (h _ _ _ d);cases b
theorem Shr.sign{f:TS->TRes}(h:Shr f)(o:Int):Shr (qdl f o):=by
 intro ts t c b;unfold qdl at b
 split at b
 cases b
 split at b
 rename_i d;have e:=h _ _ _ d;injection b with _ i;subst i;exact bu e (qcx ts.toks);cases b
theorem Shr.group{f:TS->TRes}(h:Shr f):Shr (qaa f):=by
 intro ts t c b;unfold qaa at b
 split at b
 cases b
 split at b
 rename_i d;split at b
 have e:=h _ _ _ d;injection b with _ i;subst i;exact bu (qcx _) (bu e (qcx ts.toks));cases b;cases b
theorem Shr.signed{fS fE:TS->TRes}(b:Shr fS)(c:Shr fE):Shr (yG fS fE):=by
 grind[yG,Shr.sign,Shr.group,qV,Shr]
theorem qyd:vu3 tIsNull:=by
 grind[tIsNull,qV,vu3]
theorem qyc(l:Ast):∀n xs ts t ts',xC l n xs ts=.ok t ts'->A ts'.toks<=A ts.toks:=by
 intro n
 induction n<;>grind[xC,qV]
theorem vvr:vu3 tInRes:=by
 intro l ts t c b;unfold tInRes at b
 split at b
 split at b
 exact bu (qyc l _ _ _ _ _ b) (bu (qV _) (bu (qV _) (qV _)));cases b;cases b
theorem vml:vu3 tLike:=by
 grind[tLike,qV,vu3]
theorem Shr.between{f:TS->TRes}(h:Shr f):vu3 (xI f):=by
 grind[xI,qV,Shr,vu3]
theorem Shr.keyword{f:TS->TRes}(h:Shr f)(bare:Bool):vu3 (zt f bare):=by
 grind[zt,vvr,vml,Shr.between,vu3]
theorem Shr.test{f:TS->TRes}(h:Shr f):Shr (qh0 f):=by
 intro ts t c b;unfold qh0 at b
 split at b
 rename_i d;refine bu ?_ (h _ _ _ d);unfold qgz at b
 split at b
 .exact bu (h.join _ _ _ _ b) (qV _)
 split at b
 .split at b
  exact qyd _ _ _ _ b
  grind
 split at b
 .split at b
  rename_i e;injection b with _ i;subst i;exact bu (h.keyword _ _ _ _ _ e) (qV _);cases b
 split at b
 exact h.keyword _ _ _ _ _ b
 grind
 cases b
theorem Shr.denied{c b:TS->TRes}(e:Shr c)(d:Shr b):Shr (ku c b):=by
 grind[ku,Shr.sign,Shr]
theorem Str.tail_lt(h:Str s st L)(b:st.tk.Q≠0):A L.tail<A L:=by
 cases h with
 | nil h=>rw[h]at b;exact absurd rfl b
 | cons _ _=>simp
theorem Sim.loop{d:TS->TRes}(h:Sim s f d)(r:Shr d)(ks:List Int)(D:ks.contains 0=uh):∀n b l st ts,A ts.toks<n->A ts.toks<b->Fine s st->Str s st ts.toks->st.op=ts.op->SimR s (ju s f ks n l st) (qbo d ks b (xw l) ts):=by
 intro n
 induction n with
 | zero=>grind
 | succ n ih=>
  intro b l st ts x v q c o;obtain⟨m,rfl⟩:∃m,b=m+1:=⟨b - 1,uq⟩;rw[ju,qbo,jo c]
  by_cases hc:ks.contains st.tk.Q=ui
  have i:st.tk.Q≠0:=λe=>by grind
  rw[bs hc,bs hc];have G:A ts.next.toks<A ts.toks:=c.tail_lt i;rcases(h.join st ts l q c o i).cases with⟨t,F,E,k,j,C,B,z⟩|⟨y,u,k,j⟩
  grind[Shr.join,Sim,Shr]
  rw[k,j];rfl
  grind[SimR]
theorem Sim.row{b:TS->TRes}(h:Sim s f b)(j:Shr b)(ks:List Int)(n:ks.contains 0=uh):Sim s (zj s f ks) (qvb b ks):=by
 intro st ts r k l;unfold zj qvb;rcases(h st ts r k l).cases with⟨t,q,o,d,c,i,m,e⟩|⟨x,u,d,c⟩;rw[d,c];have v:=i.len e;exact h.loop j ks n _ _ t q o uq uq e i m;rw[d,c];rfl
theorem Sim.sign{e:TS->TRes}(h:Sim s f e)(o:Int)(st:St)(ts:TS)(m:Fine s st)(i:Str s st ts.toks)(d:st.op=ts.op)(j:st.tk.Q≠0):SimR s (vP s f o st) (qdl e o ts):=by
 unfold vP qdl;rw[d]
 split
 rfl;rcases(h (p9 s st) (tIn ts) (m.next.op _) ((i.next j).withOp _) (by show st.op+1=ts.op+1;rw[d])).cases with⟨t,v,u,c,b,l,r,k⟩|⟨q,n,c,b⟩;rw[c,b];exact⟨rfl,l.withOp _,rfl,k.op _⟩;rw[c,b];rfl
theorem Sim.group{c:TS->TRes}(h:Sim s f c)(st:St)(ts:TS)(k:Fine s st)(i:Str s st ts.toks)(b:st.op=ts.op)(j:st.tk.Q≠0):SimR s (vG s f st) (qaa c ts):=by
 unfold vG qaa;rw[b]
 split
 rfl;rcases(h (p9 s st) (tIn ts) (k.next.op _) ((i.next j).withOp _) (by show st.op+1=ts.op+1;rw[b])).cases with⟨t,u,r,e,d,q,o,n⟩|⟨m,l,e,d⟩
 grind[SimR,Str.tk,TS.tk,jo,Fine.next,Str.next,Str.withOp,St,TS,Fine]
 rw[e,d];rfl
theorem Sim.signed{fS fE:St->Res}{d e:TS->TRes}(i:Sim s fS d)(j:Sim s fE e):Sim s (jc s fS fE) (yG d e):=by
 intro st ts h b c;unfold jc yG;rw[jo b]
 by_cases T9:st.tk.Q=22
 .grind[Sim.sign]
 rw[ak T9,ak T9]
 by_cases O9:st.tk.Q=23
 .grind[Sim.sign]
 rw[ak O9,ak O9]
 by_cases dM:st.tk.Q=26
 .grind[Sim.group]
 rw[ak dM,ak dM]
 by_cases h2:st.tk.Q=2
 .rw[bs h2,bs h2];exact⟨rfl,b.next (by rw[h2];decide),c,h.next⟩
 rw[ak h2,ak h2]
 by_cases h3:st.tk.Q=3
 .rw[bs h3,bs h3];exact⟨rfl,b.next (by rw[h3];decide),c,h.next⟩
 rw[ak h3,ak h3]
 by_cases h4:st.tk.Q=4
 .rw[bs h4,bs h4];exact⟨rfl,b.next (by rw[h4];decide),c,h.next⟩
 rw[ak h4,ak h4]
 by_cases h8:st.tk.Q=8
 .rw[bs h8,bs h8];exact⟨rfl,b.next (by rw[h8];decide),c,h.next⟩
 rw[ak h8,ak h8]
 by_cases h9:st.tk.Q=9
 .rw[bs h9,bs h9];exact⟨rfl,b.next (by rw[h9];decide),c,h.next⟩
 rw[ak h9,ak h9];rfl
theorem Sim.denied{e d:St->Res}{c b:TS->TRes}(i:Sim s e c)(h:Sim s d b):Sim s (jM s e d) (ku c b):=by
 grind[jM,ku,Str.tk,TS.tk,Sim.sign,Sim,St,TS]
theorem qpd(b:s.size<=200)(st:St):A (qh s st).tk.str<=200:=bu (qcv s st) b
def Bp(p:Pay):Prop:=A p.str<=200/\A p.i<=1000
def qi6:Ast->Prop
 | .leaf p=>Bp p
 | .un p x=>Bp p/\qi6 x
 | .bin p x y=>Bp p/\qi6 x/\qi6 y
 | .tri p x y z=>Bp p/\qi6 x/\qi6 y/\qi6 z
theorem bp0(op b num:Int):Bp ⟨op,b,num,[],[],[]⟩:=⟨ur,ur⟩
theorem bp1{op b num:Int}{s:uk}(h:A s<=200):Bp ⟨op,b,num,s,[],[]⟩:=⟨h,ur⟩
theorem vng(H:s.size<=200):QC s qi6 λk=>A k.str<=200:=
 ⟨H,qpd H,λ_ h=>⟨λ_=>bp1 h,bp0 _ _ _,bp1 h,bp0 _ _ _,bp0 _ _ _⟩,λ_ _ _ _ h=>⟨bp0 _ _ _,h⟩,λ_ _ _ a b=>⟨bp0 _ _ _,a,b⟩,λ_ _ _ _ a b c=>⟨bp0 _ _ _,a,b,c⟩,λ_ _ _ d _ h=>⟨⟨ur,d⟩,h⟩,λ_ _ _ _ e _ h=>⟨⟨e,ur⟩,h⟩⟩
end Go.Proofs.YtmepkbgodcffoaaGreatDoor
