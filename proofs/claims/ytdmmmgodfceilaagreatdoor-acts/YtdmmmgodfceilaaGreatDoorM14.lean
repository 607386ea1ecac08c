/- test -/
import Derived.Test.YtdmmmgodfceilaaGreatDoorM02
import Derived.Test.YtdmmmgodfceilaaGreatDoorM13
import Derived.Defers
import Derived.Recover
import Derived.Laws.Pointers
import Derived.Deep.OwnRows
set_option maxHeartbeats 16000000
set_option maxRecDepth 100000
namespace Go.Proofs.YtdmmmgodfceilaaGreatDoor
open Go.RowKit Go.Proofs.Tryz
open Go renaming Value->Ap,World->Ao
open Go.Ending renaming returned->Ak
open Go.IntKind renaming i64->J
open Go.Obj renaming cells->Al
open Go.Value renaming agg->Ai,bool->Ah,int->I,pointer->Ag,slice->C,string->Y,tuple->Aj
open Option renaming none->O,some->G
open Or renaming inl->Am,inr->An
variable{s t:tq}{c num op pl want:Int}{ts:List tu}{rs:List CRes}{ps:List Pr}{L M:List Tk}{l r:tu}{b g k lo m n rb vb:Nat}{e:Nat->Bool}{p:Pay}{st:St}{f:St->Res}{d:UInt8}{v x:V}{ev:Ap}{W a w w':Ao}
theorem quh(rb:Nat)(s:tq)(op:Nat)(f:St->Res)(q j:Ast->St->Res)(z:zI 228 rb s op f)(C:qib 253 rb s op 11 q)(B:qib 254 rb s op 12 j):
  zI 209 rb s op (zh s f q j):=by
 intro w st h y
 cases A9:f st with
 | err en pl=>
  have u:zh s f q j st=.err en pl:=by unfold zh;rw[A9]
  rw[u];obtain⟨c0,R,P,O,c4,K,J,fz⟩:=h.at';have H:=qd h;have F:=qd z;have D:=qd A9;cases G0:(st.tk.A==2)
  all_goals
   go_enter func209,ntmps209
   go_wp2_with(go_at_call 228;refine(F _ st H y).mono ?_;rintro e I⟨G,A⟩;rw[q9 D]at A;subst A;simp only[ve])
   exact⟨rfl,G,rfl⟩
 | ok l A6=>
  have u:zh s f q j st=zg s f q j (qau st l) l A6:=by unfold zh;rw[A9]
  rw[u];exact vaw ⟨z,C,B,h,y,A9⟩
structure L3 where
 S:St->Res
 D:St->Res
 E:St->Res
def vpx(s:ByteArray)(S:St->Res):St->Res:=jR s S [24,25]
def vrk(s:ByteArray)(S:St->Res):St->Res:=jR s (vpx s S) [22,23]
def vi5(s:ByteArray)(S:St->Res):St->Res:=zh s (vrk s S) (xE s) (vp s)
def vd1(s:ByteArray)(D:St->Res):St->Res:=jR s (jR s D [5]) [6]
def up3(s:ByteArray)(L:L3):L3:=⟨vY s L.S L.E,jy s L.D (vi5 s (vY s L.S L.E)),vd1 s (jy s L.D (vi5 s (vY s L.S L.E)))⟩
def lvl(s:ByteArray):Nat->L3
 | 0=>up3 s ⟨λ_=>.err 0 0,λ_=>.err 0 0,λ_=>.err 0 0⟩
 | d+1=>up3 s (lvl s d)
structure Reads3(rb:Nat)(s:ByteArray)(op:Nat)(L:L3):Prop where
 S:zI 288 rb s op L.S
 D:zI 170 rb s op L.D
 E:zI 82 rb s op L.E
theorem qkq(rb:Nat)(s:tq)(j:s.size<=200)(op:Nat)(y:op<=12)(L:L3)(h:op<12->Reads3 rb s (op+1) L):Reads3 rb s op (up3 s L):=by
 have q:zI 288 rb s op (vY s L.S L.E):=qkg rb s op y L.S L.E (λk=>(h k).S) (λk=>(h k).E);have B:=qh5 rb s op _ q;have z:=vaq rb s op _ B;have A:=quh rb s op _ _ _ z (vdr rb s op j) (qt2 rb s op j);have u:=qim rb s op y L.D _ (λk=>(h k).D) A;exact⟨q,u,qin rb s op _ (qs2 rb s op _ u)⟩
theorem qxh(rb:Nat)(s:tq)(j:s.size<=200):∀(d op:Nat),op+d=12->Reads3 rb s op (lvl s d):=by
 intro d
 induction d with
 | zero=>intro op h;exact qkq rb s j op ub _ (λk=>ub)
 | succ d ih=>intro op h;exact qkq rb s j op ub _ (λ_=>ih (op+1) ub)
structure QC(s:ByteArray)(Q:Ast->Prop)(T:Tk->Prop):Prop where
 len:s.size<=200
 tk:∀st,T (qh s st).tk
 lf:∀st,T st.tk->(st.tk.A=2->Q (kK 0 st 0 st.tk.V))/\Q (kK 1 st st.tk.K [])/\Q (kK 2 st 0 st.tk.V)/\Q (kK 3 st 0 [])/\Q (kK 4 st 0 [])
 un:∀op pl x,op=5\/op=14\/op=15\/op=23->Q x->Q (.un ⟨op,pl,0,[],[],[]⟩ x)
 bin:∀st x y,Q x->Q y->Q (viw st x y)
 tri:∀pl x y z,Q x->Q y->Q z->Q (.tri ⟨20,pl,0,[],[],[]⟩ x y z)
 am:∀pl ts x,ts.length<=1000->(∀t∈ts,∃k,T k/\t=k.V)->Q x->Q (.un ⟨21,pl,0,[],[],ts⟩ x)
 lk:∀pl k e x,T k->(e=[]\/e.length=1/\(zJ e k.V).isSome=true)->Q x->Q (.un ⟨22,pl,0,k.V,e,[]⟩ x)
section
variable {s:tq} {Q:Ast->Prop} {T:Tk->Prop} {f g:St->Res} {ks:List Int}
def GQ(Q:Ast->Prop)(T:Tk->Prop)(f:St->Res):Prop:=∀st t st',T st.tk->f st=.ok t st'->Q t/\T st'.tk
def GQT(Q:Ast->Prop)(T:Tk->Prop)(g:Ast->St->Res):Prop:=∀l st t st',Q l->T st.tk->g l st=.ok t st'->Q t/\T st'.tk
theorem GQ.join(h:GQ Q T f)(c:QC s Q T):∀st l t j,Q l->jJ s f st l=.ok t j->Q t/\T j.tk:=by
 intro st l t j y q;unfold jJ at q
 split at q<;>cases q
 rename_i u;have:=h _ _ _ (c.tk st) u;exact⟨c.bin _ _ _ y this.1,this.2⟩
theorem GQ.loop(h:GQ Q T f)(c:QC s Q T):∀n,GQT Q T (jg s f ks n):=by
 intro n
 induction n with
 | zero=>intro l st t u q y j;cases j;exact⟨q,y⟩
 | succ n ih=>
  intro l st t u q y j;rw[jg]at j
  split at j
  split at j
  rename_i z;have:=h.join c _ _ _ _ q z;exact ih _ _ _ _ this.1 this.2 j;cases j;cases j;exact⟨q,y⟩
theorem GQ.row(h:GQ Q T f)(c:QC s Q T):GQ Q T (jR s f ks):=by
 intro st t q u j;unfold jR at j
 split at j
 rename_i y;have:=h _ _ _ u y;exact h.loop c _ _ _ _ _ this.1 this.2 j;cases j
theorem GQ.sign(h:GQ Q T f)(c:QC s Q T)(o:Int)(y:o=5\/o=14\/o=15\/o=23):GQ Q T (vJ s f o):=by
 intro st t q _ j;unfold vJ at j
 split at j
 cases j
 split at j<;>cases j
 rename_i u;have:=h (kZ s st) _ _ (c.tk st) u;exact⟨c.un _ _ _ y this.1,this.2⟩
theorem GQ.group(h:GQ Q T f)(c:QC s Q T):GQ Q T (vu s f):=by
 intro st t q _ j;unfold vu at j
 split at j
 cases j
 split at j
 rename_i u;split at j<;>cases j
 exact⟨(h (kZ s st) _ _ (c.tk st) u).1,c.tk _⟩;cases j
theorem GQ.signed(u:GQ Q T f)(F:GQ Q T g)(c:QC s Q T):GQ Q T (vY s f g):=by
 intro st t y q j;obtain⟨D,C,B,A,z⟩:=c.lf st q;unfold vY at j
 split at j
 .exact u.sign c 14 uc _ _ _ q j
 split at j
 .exact u.sign c 15 uc _ _ _ q j
 split at j
 .exact F.group c _ _ _ q j
 split at j
 .rename_i h2;cases j;exact⟨D h2,c.tk st⟩
 repeat' split at j
 all_goals cases j
 exact⟨C,c.tk st⟩;exact⟨B,c.tk st⟩;exact⟨A,c.tk st⟩;exact⟨z,c.tk st⟩
theorem qwv(c:QC s Q T):GQT Q T (jk s):=by
 intro l st t u y _ j;have q:=c.un 23 st.M l uc y;unfold jk at j
 repeat' split at j
 all_goals cases j
 exact⟨c.un _ _ _ uc q,c.tk _⟩;exact⟨q,c.tk _⟩
theorem qwu(c:QC s Q T){l:Ast}{pl:Nat}(z:Q l):∀n ts st t j,ts.length+n<=1000->(∀t∈ts,∃k,T k/\t=k.V)->zQ s l pl n ts st=.ok t j->Q t/\T j.tk:=by
 intro n
 induction n with
 | zero=>intro ts st t j _ _ q;cases q
 | succ n ih=>
  intro ts st t j A y q;rw[zQ]at q
  split at q
  split at q
  refine ih _ _ _ _ ud (λx u=>?_) q;rcases cr.1 u with u|u;exact y x u;exact⟨_,c.tk st,cu.1 u⟩;cases q
  split at q<;>cases q
  exact⟨c.am _ _ _ ub y z,c.tk _⟩
theorem vr1(c:QC s Q T):GQT Q T (xE s):=by
 intro l st t q y _ j;have:=c.len;unfold xE at j
 split at j
 split at j
 exact qwu c y _ _ _ _ _ ud (λx u=>⟨_,c.tk _,cu.1 u⟩) j;cases j;cases j
theorem qsi{q:Tk}{u:Nat}{str:tu}{j:St}(h:pd s q u st=.ok str j):str.length=1/\(zJ str q.V).isSome=true:=by
 unfold pd at h
 repeat' split at h
 all_goals cases h
 exact⟨by assumption,by assumption⟩
theorem vjm(c:QC s Q T):GQT Q T (vp s):=by
 intro l st t u j _ h;unfold vp at h
 split at h
 split at h
 split at h<;>cases h
 rename_i q;rw[(qct q).2];exact⟨c.lk _ _ _ _ (c.tk st) (An (qsi q)) j,c.tk _⟩;cases h;exact⟨c.lk _ _ _ _ (c.tk st) (Am rfl) j,c.tk _⟩;cases h
theorem GQ.j(h:GQ Q T f)(c:QC s Q T):GQT Q T (qX s f):=by
 intro l st t q u _ j;unfold qX at j
 split at j
 split at j
 rename_i z;split at j
 split at j<;>cases j
 rename_i y;have b:=h _ _ _ (c.tk _) y;exact⟨c.tri _ _ _ _ u (h _ _ _ (c.tk _) z).1 b.1,b.2⟩;cases j;cases j;cases j
theorem GQ.keyword(h:GQ Q T f)(c:QC s Q T)(bare:Bool):GQT Q T (vr s f (xE s) (vp s) bare):=by
 intro l st t y u q j;unfold vr at j
 split at j
 .exact vr1 c _ _ _ _ u q j
 split at j
 exact vjm c _ _ _ _ u q j;exact h.j c _ _ _ _ u q j
theorem GQ.test(h:GQ Q T f)(c:QC s Q T):GQ Q T (zh s f (xE s) (vp s)):=by
 intro st t y z j;unfold zh at j
 split at j
 rename_i A;obtain⟨q,u⟩:=h _ _ _ z A;unfold zg at j
 split at j
 .exact h.join c _ _ _ _ q j
 split at j
 .split at j
  exact qwv c _ _ _ _ q u j;cases j;exact⟨q,u⟩
 split at j
 .split at j<;>cases j
  rename_i B;have:=h.keyword c _ _ _ _ _ q (c.tk _) B;exact⟨c.un _ _ _ uc this.1,this.2⟩
 split at j
 exact h.keyword c _ _ _ _ _ q u j;cases j;exact⟨q,u⟩;cases j
theorem GQ.y(z:GQ Q T f)(y:GQ Q T g)(c:QC s Q T):GQ Q T (jy s f g):=by
 intro st t u q j;unfold jy at j
 split at j
 exact z.sign c 5 uc _ _ _ q j;exact y _ _ _ q j
theorem vhi(c:QC s Q T):∀d,GQ Q T (lvl s d).S/\GQ Q T (lvl s d).D/\GQ Q T (lvl s d).E:=by
 have up:∀L:L3,GQ Q T L.S/\GQ Q T L.D/\GQ Q T L.E->GQ Q T (up3 s L).S/\GQ Q T (up3 s L).D/\GQ Q T (up3 s L).E:=λL h=>by
  have j:=h.1.signed h.2.2 c;have q:=h.2.1.y (((j.row c (ks:=[24,25])).row c (ks:=[22,23])).test c) c;exact⟨j,q,(q.row c (ks:=[5])).row c (ks:=[6])⟩
 intro d
 induction d with
 | zero=>exact up _ ⟨(λ_ _ _ _ h=>by cases h),(λ_ _ _ _ h=>by cases h),(λ_ _ _ _ h=>by cases h)⟩
 | succ d ih=>exact up _ ih
end
theorem ve6(s:tq)(H:s.size<=200)(st:St)(t:Ast)(j:St)(u:(lvl s 12).E st=.ok t j):WfA t:=by
 have c:QC s WfA (λ_=>True):=⟨H,λ_=>trivial,λ_ _=>by simp[kK,WfA],λop _ _ y q=>⟨by show ¬op=8/\¬op=9;omega,q⟩,λ_ _ _ a b=>⟨a,b⟩,λ_ _ _ _ a b d=>⟨uc,a,b,d⟩,λ_ _ _ _ _ h=>⟨uc,h⟩,λ_ _ _ _ _ _ h=>⟨uc,h⟩⟩;exact((vhi c 12).2.2 _ _ _ trivial u).1
theorem qs3(q j h:Addr)(w:Ao):
  CallsD prog 80 #[Ag (G q),Ag (G j),Ag (G h)] .returning w λe u w'=>e=Ak (Aj #[])/\u=.returning/\w'=w:=by
 refine callsD_of_wpS func80 rfl λc₀ cs y=>?_
 apply wpS_seq;apply wpS_region;simp[wpOpsS,go_sem,recoverD,y,ntmps80,Exit.thenS];refine wpS_of_wp ?_;rw[show(#[Ag (G q),Ag (G j),Ag (G h)]++(Array.replicate 13 undef).setIfInBounds 3 Value.nilIface)=#[Ag (G q),Ag (G j),Ag (G h),undef,undef,undef,Value.nilIface,undef,undef,undef,undef,undef,undef,undef,undef,undef] from rfl]
 go_wp2
 refine⟨rfl,.returning, ?_,_,results_none rfl _ _ _,rfl,rfl,rfl⟩;cases c₀
 simp_all
theorem vc6(v:Ap)(w:Ao):(Instr.typeAssert (.iface 151 v) 20 151 true).run prog w=.ok (Aj #[v,Ah true]) w:=uh
theorem vd5(v:Ap)(w:Ao):(binOp .eql 20 (.iface 151 v) .nilIface).run prog w=.ok (Ah false) w:=uh
theorem xX(B:Nat)(y u q:Ap)(j pl:Int)(older:List PanicEntry)(w:Ao)(Y:B+2<w.1.size)(F:w.cell? ⟨B,0,O⟩=G y)(D:w.cell? ⟨B+1,0,O⟩=G u)(C:w.cell? ⟨B+2,0,O⟩=G q)
  (f0:w.frozen? ⟨B,0,O⟩=false) (f1:w.frozen? ⟨B+1,0,O⟩=false) (Z:w.frozen? ⟨B+2,0,O⟩=false) :
  CallsD prog 80 #[Ag (G ⟨B,0,O⟩),Ag (G ⟨B+1,0,O⟩),Ag (G ⟨B+2,0,O⟩)] (.panicking ({ v:=.iface 151 (Ai #[I J j,I J pl]),recovered:=false }::older)) w λe z w'=>
   e=Ak (Aj #[])/\z=.panicking ({ v:=.iface 151 (Ai #[I J j,I J pl]),recovered:=true }::older) /\
   w'.cell? ⟨B,0,O⟩=G (Ag O)/\w'.cell? ⟨B+1,0,O⟩=G (I J j)/\w'.cell? ⟨B+2,0,O⟩=G (I J pl)/\Below B w w':=by
 refine callsD_of_wpS func80 rfl λc₀ cs A=>?_
 apply wpS_seq;apply wpS_region;simp[wpOpsS,go_sem,recoverD,A,ntmps80,Exit.thenS];refine wpS_of_wp ?_;rw[show(#[Ag (G ⟨B,0,O⟩),Ag (G ⟨B+1,0,O⟩),Ag (G ⟨B+2,0,O⟩)]++(Array.replicate 13 undef).setIfInBounds 3 (.iface 151 (Ai #[I J j,I J pl])))=#[Ag (G ⟨B,0,O⟩),Ag (G ⟨B+1,0,O⟩),Ag (G ⟨B+2,0,O⟩),undef,undef,undef,.iface 151 (Ai #[I J j,I J pl]),undef,undef,undef,undef,undef,undef,undef,undef,undef] from rfl];have U:=vc6;have hq:=vd5;have n0:B<w.1.size:=ub;have H:B+1<w.1.size:=ub;have R:¬w.1.size=B:=ub;have P:¬w.1.size=B+1:=ub;have K:¬w.1.size=B+2:=ub
 go_wp2
 go_region
 all_goals refine⟨rfl,.panicking ({ v:=.iface 151 (Ai #[I J j,I J pl]),recovered:=true }::older), ?_,_,results_none rfl _ _ _,rfl,rfl, ?_, ?_, ?_, ?_⟩
 cases c₀
 simp_all
 .rw[ir,bw _ _ _ ud];simp[go_sem,F]
 .rw[ir,bw _ _ _ ud];simp[go_sem,D]
 .rw[ir,bw _ _ _ ud];simp[go_sem,C]
 exact(((((Below.refl B w).setCell ui _).setCell uc _).setCell uc _).alloc ud _).drew
structure Above(lo:Nat)(w w':Ao):Prop where
 size:w.1.size<=w'.1.size
 block:∀k,lo<k->k<w.1.size->w'.1[k]?=w.1[k]?
theorem Kept.above(h:Kept rb w w'):Above rb w w':=⟨h.size,λk q j=>h.block k j ub⟩
theorem Above.trans{b c:Ao}(h:Above lo a b)(k:Above lo b c):Above lo a c:=⟨bs h.size k.size,λi q j=>(k.block i q (aq j h.size)).trans (h.block i q j)⟩
theorem Above.setCell(h:Above lo a w){p:Addr}(hp:p.block<=lo)(u:Ap):Above lo a (w.setCell p u):=by
 refine⟨by rw[size_setCell];exact h.size,λk q j=>?_⟩;rw[au w p u k ub];exact h.block k q j
theorem Above.cell(h:Above lo w w')(u:lo<g)(q:g<w.1.size)(j:Nat):w'.cell? ⟨g,j,O⟩=w.cell? ⟨g,j,O⟩:=
 aw (w:=w) (w':=w') (a:=⟨g,j,O⟩) (h.block g u q)
theorem TextsAt.keptA(q:Above lo w w'){v:Ap}(h:TextsAt lo w v ts):TextsAt lo w' v ts:=by
 rcases h with h|⟨g,cap,hv,u,y,A⟩;exact Am h;exact An ⟨g,cap,hv,u,aq y q.size,λj t z=>(q.cell u y j).trans (A j t z)⟩
theorem NodeAt.keptA(u:Above lo w w'){sides:Ap}(h:NodeAt lo w b p sides):NodeAt lo w' b p sides:=by
 obtain⟨z,y,c0,G,F,D,c4,C,tv,B,A⟩:=h;have q:=λj=>u.cell z y j
 exact⟨z,aq y u.size,(q 0).trans c0,(q 1).trans G,(q 2).trans F,(q 3).trans D,(q 4).trans c4,(q 5).trans C,tv,(q 6).trans B,A.keptA u⟩
theorem IsNode.above(A:Above lo w w'):∀{t:Ast} {v:Ap},IsNode lo w v t->IsNode lo w' v t:=by
 have B:=λg j (u:lo<g) (q:g<w.1.size)=>A.cell u q j
 intro t
 induction t with
 | leaf p=>rintro v⟨b,rfl,h⟩;exact⟨b,rfl,h.keptA A⟩
 | un p x ih=>
  rintro v⟨b,g,C,rfl,h,u,q,F,D⟩;exact⟨b,g,C,rfl,h.keptA A,u,aq q A.size,(B g 0 u q).trans F,ih D⟩
 | bin p x y ihx ihy=>
  rintro v⟨b,g,C,G,rfl,h,u,q,F,I,D,H⟩;exact⟨b,g,C,G,rfl,h.keptA A,u,aq q A.size,(B g 0 u q).trans F,(B g 1 u q).trans I,ihx D,ihy H⟩
 | tri p x y z ihx ihy ihz=>
  rintro v⟨b,g,C,G,J,rfl,h,u,q,F,I,O,D,H,K⟩;exact⟨b,g,C,G,J,rfl,h.keptA A,u,aq q A.size,(B g 0 u q).trans F,(B g 1 u q).trans I,(B g 2 u q).trans O,ihx D,ihy H,ihz K⟩
inductive RRes where
 | ok (t:Ast)
 | err (en pl:Int)
def st0:St:=⟨⟨0,0,[]⟩,0,0,0⟩
def qmy(t:Ast)(st:St):RRes:=if st.tk.A=0 then(match quu (qy t) with
 | none=>.ok t
 | some q=>.err 4 q) else .err 2 st.M
def vq(s:ByteArray):RRes:=if s.size<=200 then(match (lvl s 12).E (qh s st0) with
 | .err en pl=>.err en pl
 | .ok t st=>qmy t st) else .err 1 0
def qc1(w:Ao)(r:RRes)(e:Ending)(w':Ao):Prop:=Below w.1.size w w'/\match r with
 | .ok t=>∃v,e=Ak (Aj #[v,I J 0,I J 0])/\IsNode (w.1.size+3) w' v t
 | .err en pl=>e=Ak (Aj #[Ag O,I J en,I J pl])
theorem Kept.below{B:Nat}(h:Kept rb w w')(j:Below B a w)(y:B<=rb)(u:B<=w.1.size):Below B a w':=
 ⟨h.os.trans j.os,h.tape.trans j.tape,h.output.trans j.output,bs j.size h.size,λk q=>(h.block k ub ub).trans (j.block k q)⟩
def begun(w:Ao)(s:ByteArray):Ao:=(((w.alloc (Al #[Ag O] 91)).alloc (Al #[I J 0] 58)).alloc (Al #[I J 0] 3)).alloc (Al #[Y s,I J 0,I J 0,I J 0,Y ⟨#[]⟩,I J 0,I J 0] 156)
theorem gJ(w:Ao)(s:tq):(begun w s).1.size=w.1.size+4:=by simp[begun]
theorem qma(w:Ao)(s:tq):Xb w (begun w s):=(zk w _ _ _).alloc ud _
theorem qmb(w:Ao)(s:tq):(begun w s).cell? ⟨w.1.size,0,O⟩=G (Ag O)/\(begun w s).cell? ⟨w.1.size+1,0,O⟩=G (I J 0)/\(begun w s).cell? ⟨w.1.size+2,0,O⟩=G (I J 0) /\
  (begun w s).frozen? ⟨w.1.size,0,O⟩=false/\(begun w s).frozen? ⟨w.1.size+1,0,O⟩=false/\(begun w s).frozen? ⟨w.1.size+2,0,O⟩=false:=by
 unfold begun;refine⟨?_, ?_, ?_, ?_, ?_, ?_⟩;rw[bw _ _ _ ug,bw _ _ _ ug,bw _ _ _ uc,ch _ _ _ _ rfl];rfl;rw[bw _ _ _ ug,bw _ _ _ uc,ch _ _ _ _ uc];rfl;rw[bw _ _ _ uc,ch _ _ _ _ uc];rfl;rw[mi _ _ _ ug,mi _ _ _ ug,mi _ _ _ uc,mu _ _ _ _ rfl];rw[mi _ _ _ ug,mi _ _ _ uc,mu _ _ _ _ uc];rw[mi _ _ _ uc,mu _ _ _ _ uc]
theorem vq2(w:Ao)(s:tq):RdAt (w.alloc (Al #[Y s,I J 0,I J 0,I J 0,Y ⟨#[]⟩,I J 0,I J 0] 156)) w.1.size s st0:=
 ⟨uc,by simp[st0],by simp[st0],by simp[st0],by simp[st0,BS],by simp[st0],by simp[st0],λj=>uc⟩
theorem vc7(w:Ao)(s:tq):RdAt (begun w s) (w.1.size+3) s st0:=by
 have j:w.1.size+3=(((w.alloc (Al #[Ag O] 91)).alloc (Al #[I J 0] 58)).alloc (Al #[I J 0] 3)).1.size:=uc;rw[j];exact vq2 _ s
theorem qig(w:Ao)(s:tq)(h:ErrOk w):ErrOk (begun w s):=(((h.alloc _).alloc _).alloc _).alloc _
theorem qmc(w:Ao)(s:tq)(h:ErrOk w)(j:s.size<=200):Ready (w.1.size+3) s (begun w s) st0:=
 ⟨vc7 w s,by rw[gJ];omega,qig w s h,uu h.1,⟨bt _,bt _,λh=>absurd rfl h⟩,ub⟩
def quv(w:Ao)(r:CRes)(e:Ending)(w':Ao):Prop:=Below w.1.size w w'/\match r with
 | .ok _=>e=Ak (Aj #[])
 | .err q=>e=ve 4 q
theorem qv8(lo:Nat)(p:Pay)(x y:Ast)(hx:qat lo x)(hy:qat lo y)(w:Ao)(v:Ap)(h:IsNode lo w v (.bin p x y)):
  ua 172 #[v] w (quv w (zM p.M (qy x) (qy y))):=by
 obtain⟨b,g,v1,v2,rfl,hn,I4,H,e1,e2,U,P⟩:=h;obtain⟨b1,rfl⟩:=U.ptr;obtain⟨b2,rfl⟩:=P.ptr;obtain⟨S9,G4,c0,c1,c2,c3,c4,c5,c6⟩:=hn;obtain⟨pl,Q6⟩:=it p.M;rw[Q6]at c1 |-;have N1:=qd (U.T ((Kept.refl lo w).drew));have N2:=qd P;have CX:=qd hx;have CY:=qd hy;clear c0 c3 c4 c5 c6 U P hx hy Q6
 cases rV:qy x with
 | err q=>
  have K:=qd rV;clear rV;rw[zM];go_enter func172,ntmps172
  go_wp2
  go_region_with(first|(go_at_call_of 122 (Ag (G { block:=b1,off:=0 }));refine(CX _ _ N1).mono ?_;rintro e z⟨j,A⟩;rw[q9 K]at A;subst A;refine vqr (w:=z) ⟨rfl,((Below.refl w.1.size w).drew).trans j,rfl⟩ ?_))
  all_goals trivial
 | ok cx=>
  have K:=qd rV;clear rV
  cases hyc:qy y with
  | err q=>
   have HY:=qd hyc;clear hyc;rw[zM];go_enter func172,ntmps172
   go_wp2
   go_region_with(first|(go_at_call_of 122 (Ag (G { block:=b1,off:=0 }));refine(CX _ _ N1).mono ?_;rintro e z⟨j,A⟩;rw[q9 K]at A;subst A;have j:Xb w z:=((Below.refl w.1.size w).drew).trans j;obtain⟨u,F⟩:=qk j;have k2:Xc z b 2 (C (G ⟨g,0,O⟩) 2 2):=(u _ 2 G4).trans c2;have Z:Xc z g 0 (Ag (G ⟨b1,0,O⟩)):=(u _ 0 H).trans e1;have Y:Xc z g 1 (Ag (G ⟨b2,0,O⟩)):=(u _ 1 H).trans e2;have z1:=j.size;have j:=qd j;clear u F)|(go_at_call_of 122 (Ag (G { block:=b2,off:=0 }));refine(CY _ _ (N2.T (Kept.of_below j))).mono ?_;rintro e w2⟨D,B⟩;rw[q9 HY]at B;subst B;refine vqr (w:=w2) ⟨rfl,qg j D,rfl⟩ ?_))
   all_goals trivial
  | ok cy=>
   have HY:=qd hyc;clear hyc;rw[zM];obtain⟨R,hR⟩:∃r,(if(cx != cy&&cx != 0&&cy != 0)=true then CRes.err pl else CRes.ok 3)=r:=⟨_,rfl⟩;rw[hR];have HR:=qd hR;clear hR;go_enter func172,ntmps172
   go_wp2
   go_region_held3 (λw'=>Xc w' b 2 (C (G ⟨g,0,O⟩) 2 2)/\Xc w' g 0 (Ag (G ⟨b1,0,O⟩))/\Xc w' g 1 (Ag (G ⟨b2,0,O⟩))) (go_keep) (first|(go_at_call_of 122 (Ag (G { block:=b1,off:=0 }));refine(CX _ _ N1).mono ?_;rintro e z⟨j,A⟩;rw[q9 K]at A;subst A;have j:Xb w z:=((Below.refl w.1.size w).drew).trans j;obtain⟨u,F⟩:=qk j;have k2:Xc z b 2 (C (G ⟨g,0,O⟩) 2 2):=(u _ 2 G4).trans c2;have Z:Xc z g 0 (Ag (G ⟨b1,0,O⟩)):=(u _ 0 H).trans e1;have Y:Xc z g 1 (Ag (G ⟨b2,0,O⟩)):=(u _ 1 H).trans e2;have z1:=j.size;have j:=qd j;clear u F)|(go_at_call_of 122 (Ag (G { block:=b2,off:=0 }));refine(CY _ _ (N2.T (Kept.of_below j))).mono ?_;rintro e w2⟨D,B⟩;rw[q9 HY]at B;subst B;obtain⟨u,F⟩:=qk D;have j1:Xc w2 b 1 (I J pl):=(u _ 1 ub).trans (((qk j).1 _ 1 G4).trans c1);have l2:Xc w2 b 2 (C (G ⟨g,0,O⟩) 2 2):=(u _ 2 ub).trans k2;have l3:Xc w2 g 0 (Ag (G ⟨b1,0,O⟩)):=(u _ 0 ub).trans Z;have l4:Xc w2 g 1 (Ag (G ⟨b2,0,O⟩)):=(u _ 1 ub).trans Y;have D:=qd (qg j D);clear u F))
   clear k2 Z Y l2 l3 l4 c1 c2 e1 e2;cases A:(cx != cy)<;>cases B:(cx != 0)<;>cases h3:(cy != 0)
   all_goals
    rw[A,B,h3]at HR
    go_wp2
    rw[<-q9 HR]
    first|exact⟨rfl,q9 D,rfl⟩|(go_end0;exact⟨q9 D,rfl⟩)
theorem qs7(h:qR op pl rs=zN want pl c rs)(hq:dem want pl rs true=O):qR op pl rs=.ok c:=by
 rw[h,zN,hq]
theorem qs8{q:Int}(h:qR op pl rs=zN want pl c rs)(hq:dem want pl rs true=G q):qR op pl rs=.err q:=by
 rw[h,zN,hq]
theorem qmg(lo:Nat)(t:Ast)(j:(jc t).op=0\/(jc t).op=1\/(jc t).op=2):qat lo t:=by
 intro w v h;have q:qy t=.ok (jc t).op:=by rw[yI];rcases j with j|j|j<;>rw[j]<;>rfl
 rw[q];obtain⟨b,y,rfl,u,_⟩:=h.parts;have c0:=u.c0;rcases j with j|j|j
 all_goals
  rw[j]at c0 |-;go_enter func122,ntmps122
  go_wp2
  go_ret;exact⟨uj,rfl⟩
theorem qcm(lo:Nat)(t:Ast)(want c:Int)(q:∀x∈qM t,qat lo x)(z:(want=3/\c=3/\((jc t).op=5\/(jc t).op=6\/(jc t).op=7))\/(want=1/\c=3/\((jc t).op=10\/(jc t).op=11\/(jc t).op=12\/(jc t).op=13\/(jc t).op=20))\/(want=1/\c=1/\((jc t).op=14\/(jc t).op=15\/(jc t).op=16\/(jc t).op=17\/(jc t).op=18\/(jc t).op=19))):qat lo t:=by
 intro w v h;have DEM:=qd (qsf lo t q want w v h);obtain⟨b,F,rfl,C,_⟩:=h.parts;have c0:=C.c0
 have y:qR (jc t).op (jc t).M ((qM t).map qy)=zN want (jc t).M c ((qM t).map qy):=by
  rcases z with⟨rfl,rfl,j|j|j⟩|⟨rfl,rfl,j|j|j|j|j⟩|⟨rfl,rfl,j|j|j|j|j|j⟩<;>rw[j]<;>rfl
 have u:=yI t;cases hd:dem want (jc t).M ((qM t).map qy) true
 all_goals
  rw[hd]at DEM
  first|rw[u,qs7 y hd]|rw[u,qs8 y hd]
  rcases z with⟨rfl,rfl,j|j|j⟩|⟨rfl,rfl,j|j|j|j|j⟩|⟨rfl,rfl,j|j|j|j|j|j⟩
 all_goals
  rw[j]at c0;go_enter func122,ntmps122
  go_wp2_with(go_at_call 171;refine DEM.mono ?_;rintro e D⟨A,B⟩;subst B;try simp only[ve])
  first
   | exact⟨rfl,A,rfl⟩
   | (
    go_ret
    exact⟨A,rfl⟩)
theorem qs5(lo:Nat)(p:Pay)(x y:Ast)(D:qat lo x)(C:qat lo y)(j:p.op=8\/p.op=9):qat lo (.bin p x y):=by
 intro w v h;rcases j with j|j
 all_goals
  have ALI:=qd (qv8 lo p x y D C w v h);obtain⟨b,K,rfl,H,_⟩:=h.parts;have c0:Xc w b 0 (I J p.op):=H.c0;rw[j]at c0;have G:qy (.bin p x y)=zM p.M (qy x) (qy y):=by rw[qy,j];rfl
  rw[G]
  have A:∀c,zM p.M (qy x) (qy y)=.ok c->c=3:=by
   intro c h;unfold zM at h
   split at h
   cases h;cases h
   split at h
   cases h;injection h with h;exact h.symm
  obtain⟨r,F⟩:=it (zM p.M (qy x) (qy y));rw[F]at ALI A |-
  cases r with
  | ok c=>
   obtain rfl:=A c rfl;go_enter func122,ntmps122
   go_wp2_with(go_at_call 172;refine ALI.mono ?_;rintro e B⟨z,u⟩;subst u)
   go_ret;exact⟨z,rfl⟩
  | err q=>
   go_enter func122,ntmps122
   go_wp2_with(go_at_call 172;refine ALI.mono ?_;rintro e B⟨z,u⟩;subst u;simp only[ve])
   exact⟨rfl,z,rfl⟩
theorem qs6(lo:Nat)(t:Ast)(q:((jc t).op==0)=false/\((jc t).op==1)=false/\((jc t).op==2)=false/\((jc t).op==5)=false/\((jc t).op==6)=false/\((jc t).op==7)=false/\((jc t).op==10)=false/\((jc t).op==11)=false/\((jc t).op==12)=false/\((jc t).op==13)=false/\((jc t).op==20)=false/\((jc t).op==14)=false/\((jc t).op==15)=false/\((jc t).op==16)=false/\((jc t).op==17)=false/\((jc t).op==18)=false/\((jc t).op==19)=false/\((jc t).op==8)=false/\((jc t).op==9)=false):qat lo t:=by
 intro w v h;obtain⟨F,D,C,B,A,z,Z,U,Y,G,J,DY,K,O,P,H,I,y,u⟩:=q;have j:qy t=.ok 3:=by rw[yI];simp only[qR,F,D,C,B,A,z,Z,U,Y,G,J,DY,K,O,P,H,I,y,u,Bool.or_self,dg,if_false]
 rw[j];obtain⟨b,sv,rfl,R,_⟩:=h.parts;have c0:=R.c0;go_enter func122,ntmps122
 go_wp2
 go_ret;exact⟨uj,rfl⟩
theorem gK(lo:Nat)(t:Ast)(j:WfA t)(h:∀x∈qM t,qat lo x):qat lo t:=by
 by_cases h0:(jc t).op=0\/(jc t).op=1\/(jc t).op=2
 .exact qmg lo t h0
 by_cases h1:(jc t).op=5\/(jc t).op=6\/(jc t).op=7
 .exact qcm lo t 3 3 h (Am ⟨rfl,rfl,h1⟩)
 by_cases h2:(jc t).op=10\/(jc t).op=11\/(jc t).op=12\/(jc t).op=13\/(jc t).op=20
 .exact qcm lo t 1 3 h (An (Am ⟨rfl,rfl,h2⟩))
 by_cases h3:(jc t).op=14\/(jc t).op=15\/(jc t).op=16\/(jc t).op=17\/(jc t).op=18\/(jc t).op=19
 .exact qcm lo t 1 1 h (An (An ⟨rfl,rfl,h3⟩))
 by_cases h8:(jc t).op=8\/(jc t).op=9
 .cases t with
  | leaf p=>exact absurd h8 (_root_.not_or.2 j)
  | un p x=>exact absurd h8 (_root_.not_or.2 j.1)
  | bin p x y=>exact qs5 lo p x y (h x (by simp[qM])) (h y (by simp[qM])) h8
  | tri p x y z=>exact absurd h8 (_root_.not_or.2 j.1)
 exact qs6 lo t (by simp only[bh];simp only[_root_.not_or]at h0 h1 h2 h3 h8;(repeat' apply And.intro)<;>(intro;omega))
theorem qvt(lo:Nat):∀t,WfA t->qat lo t:=by
 intro t
 induction t with
 | leaf p=>intro h;exact gK lo _ h (λx B=>by simp[qM]at B)
 | un p x ih=>intro h;exact gK lo _ h (λy q=>by simp[qM]at q;subst q;exact ih h.2)
 | bin p x y ihx ihy=>intro h;exact gK lo _ h (λz j=>by simp[qM]at j;rcases j with rfl|rfl;exact ihx h.1;exact ihy h.2)
 | tri p x y z ihx ihy ihz=>intro h;exact gK lo _ h (λu A=>by simp[qM]at A;rcases A with rfl|rfl|rfl;exact ihx h.2.1;exact ihy h.2.2.1;exact ihz h.2.2.2)
theorem qvq(lo:Nat)(t:Ast)(y:WfA t)(w:Ao)(v:Ap)(h:IsNode lo w v t):
  ua 84 #[v] w (quw w (quu (qy t))):=by
 have CLS:=qd (qvt lo t y w v h);obtain⟨b,rfl⟩:=h.ptr
 cases hc:qy t with
 | err q=>
  rw[hc]at CLS;go_enter func84,ntmps84
  go_wp2_with(go_at_call 122;refine CLS.mono ?_;rintro e z⟨u,j⟩;subst j;simp only[ve])
  exact⟨rfl,u,rfl⟩
 | ok c=>
  rw[hc]at CLS;cases j:(c != 3)<;>cases h2:(c != 0)
  all_goals
   rw[quu,j,h2];simp only[mn,iz,Bool.and_self,dg,if_false,if_true];go_enter func84,ntmps84
   go_wp2_with(go_at_call 122;refine CLS.mono ?_;rintro e z⟨u,j⟩;subst j)
   first|exact⟨rfl,u,rfl⟩|(go_end0;exact⟨u,rfl⟩)
theorem vsh(h:n<=9223372036854775807):Rng (n:Int):=⟨ub,ub⟩
theorem qkz:Rng 0:=⟨ue,ue⟩
theorem qn4(l:tu):Rng (vh l).K:=by
 unfold vh
 split
 exact qkz
 split
 .unfold j9;split<;>exact qkz
 split
 .unfold xN;split
  rename_i h;exact vsh h;exact qkz
 split
 unfold vP;split<;>exact qkz
 exact qkz
theorem vai(s:tq)(st:St):Rng (qh s st).tk.K:=by
 show Rng (qQ s.data.toList st.B).K;unfold qQ
 split
 exact qn4 _;exact qkz
def qia:Ast->Prop
 | .leaf p=>Rng p.K
 | .un p x=>Rng p.K/\qia x
 | .bin p x y=>Rng p.K/\qia x/\qia y
 | .tri p x y z=>Rng p.K/\qia x/\qia y/\qia z
theorem vhp(H:s.size<=200):QC s qia λk=>Rng k.K:=
 ⟨H,vai s,λ_ h=>⟨λ_=>qkz,h,qkz,qkz,qkz⟩,λ_ _ _ _ h=>⟨qkz,h⟩,λ_ _ _ a b=>⟨qkz,a,b⟩,λ_ _ _ _ a b c=>⟨qkz,a,b,c⟩,λ_ _ _ _ _ h=>⟨qkz,h⟩,λ_ _ _ _ _ _ h=>⟨qkz,h⟩⟩
def nextB(p:Pc)(t:List UInt8)(e:Nat->Bool):Nat->Bool
 | 0=>p.A==2&&e 0
 | j+1=>if p.A==2 then e (j+1)||nextB p t e j else if p.A==1 then e j else e j&&t.getD j 0==p.c
def ko(ps:List Pc)(t:List UInt8)(e:Nat->Bool):Bool:=match ps with
 | []=>e t.length
 | p::r=>ko r t (nextB p t e)
def qiv(pat esc t:List UInt8):Bool:=match zJ esc pat with
 | none=>false
 | some ps=>ko ps t λj=>j==0
def qbu(x:V)(pat esc:List UInt8):V:=if x.A==3 then bV (qiv pat esc x.V) else nV
def pT(x:V)(ts:List (List UInt8)):V:=ts.foldl (λf t=>orV f (eqV x (tV t))) (bV false)
def xM(p:Pay)(x y z:V):V:=
 if p.op=20 then qi3 (leV y x) (leV x z) else if p.op=21 then pT x p.P else if p.op=22 then qbu x p.V p.h else jY p.op x y
def ofN(ps:List Pr)(p:Pay)(s:List V):V:=
 if p.op=0 then yh ps p.V else if p.op=1 then iV p.K else if p.op=2 then tV p.V else if p.op=3 then bV true else if p.op=4 then bV false
 else xM p (s.getD 0 nV) (s.getD 1 nV) (s.getD 2 nV)
def ofA(ps:List Pr):Ast->V
 | .leaf p=>ofN ps p []
 | .un p x=>ofN ps p [ofA ps x]
 | .bin p x y=>ofN ps p [ofA ps x,ofA ps y]
 | .tri p x y z=>ofN ps p [ofA ps x,ofA ps y,ofA ps z]
theorem vhq(ps:List Pr)(t:Ast):ofA ps t=ofN ps (jc t) ((qM t).map (ofA ps)):=by cases t<;>rfl
theorem pG(b:Bool):Rng (bV b).K:=by cases b<;>exact⟨ue,ue⟩
theorem qa8:Rng nV.K:=⟨ue,ue⟩
theorem qhm{n:Int}(h:xK n=true):Rng (iV n).K:=by
 simp[xK]at h;exact h
theorem qp8(x:V):Rng (yq x).K:=by unfold yq;split;exact pG _;exact qa8
theorem qzg(x y:V):Rng (qi3 x y).K:=by unfold qi3;split;exact pG _;split;exact pG _;exact qa8
theorem vhy(x y:V):Rng (orV x y).K:=by unfold orV;split;exact pG _;split;exact pG _;exact qa8
theorem vq6(x y:V):Rng (eqV x y).K:=by unfold eqV;split;exact qa8;exact pG _
theorem qra(x y:V):Rng (yQ x y).K:=by unfold yQ;split;exact pG _;exact qa8
theorem vhx(x y:V):Rng (leV x y).K:=by unfold leV;split;exact pG _;exact qa8
theorem qze(x y:V):Rng (qkw x y).K:=by
 unfold qkw;split
 rename_i h;simp only[dh]at h;exact qhm h.2;exact qa8
theorem qzi(x y:V):Rng (quf x y).K:=by
 unfold quf;split
 rename_i h;simp only[dh]at h;exact qhm h.2;exact qa8
theorem vmj(x y:V):Rng (qky x y).K:=by
 unfold qky;split
 rename_i h;simp only[dh]at h;exact qhm h.2;exact qa8
theorem vmi(x y:V):Rng (qsh x y).K:=by
 unfold qsh;split
 rename_i h;simp only[dh]at h;exact qhm h.2;exact qa8
theorem jM{c:Prop}[Decidable c]{a b:V}(j:Rng a.K)(h:Rng b.K):Rng (if c then a else b).K:=by
 split
 exact j;exact h
theorem qr9(op:Int)(x y:V):Rng (jY op x y).K:=by
 unfold jY;exact jM (qp8 _) (jM (qzg _ _) (jM (vhy _ _) (jM (vq6 _ _) (jM (qp8 _) (jM (qra _ _) (jM (qra _ _) (jM (vhx _ _) (jM (vhx _ _) (jM (qze _ _) (jM (qze _ _) (jM (qzi _ _) (jM (qzi _ _) (jM (vmj _ _) (jM (vmi _ _) (pG _)))))))))))))))
theorem qzf(x:V)(ts:List tu):∀f:V,Rng f.K->Rng (ts.foldl (λf t=>orV f (eqV x (tV t))) f).K:=by
 induction ts with
 | nil=>intro f h;exact h
 | cons t r ih=>intro f _;exact ih _ (vhy _ _)
theorem qzh(p:Pay)(x y z:V):Rng (xM p x y z).K:=by
 unfold xM
 split
 .exact qzg _ _
 split
 .exact qzf x _ _ (pG _)
 split
 unfold qbu;split;exact pG _;exact qa8
 exact qr9 _ _ _
def qfq(ps:List Pr):Prop:=∀p∈ps,Rng p.val.K
theorem qr8(h:qfq ps)(n:tu):Rng (yh ps n).K:=by
 unfold yh
 split
 rename_i p hp;exact h p (nj hp);exact qa8
theorem vq7(h:qfq ps)(hp:Rng p.K)(s:List V):Rng (ofN ps p s).K:=by
 unfold ofN
 split
 .exact qr8 h _
 split
 .exact hp
 split
 .exact qkz
 split
 .exact pG _
 split
 exact pG _;exact qzh _ _ _ _
def EvArg(w:Ao)(ev:Ap)(ps:List Pr):Prop:=
 ps.length<=8/\((ps=[]/\∃a cap,ev=C a 0 cap)\/∃b off cap,ev=C (G ⟨b,off,O⟩) ps.length cap/\EvAt w b off ps/\b<w.1.size)
theorem EvArg.below(h:EvArg w ev ps)(j:Xb w w'):EvArg w' ev ps:=by
 refine⟨h.1, ?_⟩;rcases h.2 with h|⟨b,off,cap,rfl,u,q⟩;exact Am h;exact An ⟨b,off,cap,rfl,u.below j q,aq q j.size⟩
theorem EvArg.slice(h:EvArg w ev ps):∃a n c,ev=C a n c:=by
 rcases h.2 with⟨_,a,cap,rfl⟩|⟨b,off,cap,rfl,_⟩;exact⟨_,_,_,rfl⟩;exact⟨_,_,_,rfl⟩
theorem vdd(h:EvArg w ev ps)(s:tq):
  ut 88 #[ev,Y s] w (vV (yh ps s.data.toList)):=by
 rcases h.2 with⟨rfl,a,cap,rfl⟩|⟨b,off,cap,rfl,j,q⟩;exact qsk a cap s w;exact vdc b off cap ps s w h.1 j q
def yg:List UInt8->List UInt8
 | []=>[]
 | c::r=>if c==39 then 39::39::yg r else c::yg r
theorem qmp(a b:tu):yg (a++b)=yg a++yg b:=by
 induction a with
 | nil=>rfl
 | cons c r ih=>
  rw[dk,yg,yg,ih]
  split<;>rfl
theorem qqc(a:tu):(yg a).length<=2 * a.length:=by
 induction a with
 | nil=>exact ui
 | cons c r ih=>rw[yg];split<;>simp<;>omega
theorem qys(r:tu)(h:∀c,r.head?=G c->(c==39)=false):vm (39::r)=G ([],1):=by
 cases r with
 | nil=>rfl
 | cons d t=>rw[vm,bo ue,ak (by rw[h d rfl];decide)]
theorem qyr(r:tu)(h:∀c,r.head?=G c->(c==39)=false)(s:tu):vm (yg s++39::r)=G (s,(yg s).length+1):=by
 induction s with
 | nil=>exact qys r h
 | cons c t ih=>
  rw[yg]
  by_cases hc:(c==39)=true
  .rw[bo hc]
   show vm (39::39::(yg t++39::r))=_;rw[vm,bo ue,bo ue,ih,eq_of_beq hc];rfl
  rw[ak hc]
  cases hd:yg t++39::r with
  | nil=>simp at hd
  | cons d u=>
   show vm (c::(yg t++39::r))=_;rw[hd,vm,ak hc,<-hd,ih];rfl
def vqt(p:Pay):Pay:={ p with M:=0 }
def x9:Ast->Ast
 | .leaf p=>.leaf (vqt p)
 | .un p x=>.un (vqt p) (x9 x)
 | .bin p x y=>.bin (vqt p) (x9 x) (x9 y)
 | .tri p x y z=>.tri (vqt p) (x9 x) (x9 y) (x9 z)
theorem qji(t:Ast):opA (x9 t)=opA t:=by cases t<;>rfl
structure TS where
 toks:List Tk
 op:Nat
inductive TRes where
 | ok (t:Ast) (ts:TS)
 | err (en:Int)
def hd(L:List Tk):Tk:=match L with
 | []=>qi 0
 | k::_=>k
def TS.tk(ts:TS):Tk:=hd ts.toks
def TS.next(ts:TS):TS:=⟨ts.toks.tail,ts.op⟩
def qbz(f:TS->TRes)(ts:TS)(l:Ast):TRes:=match f ts.next with
 | .ok r ts'=>.ok (.bin ⟨qef ts.tk.A,0,0,[],[],[]⟩ l r) ts'
 | .err en=>.err en
def qai(f:TS->TRes)(ks:List Int):Nat->Ast->TS->TRes
 | 0,l,ts=>.ok l ts
 | n+1,l,ts=>if ks.contains ts.tk.A then(match qbz f ts l with
   | .ok l' ts'=>qai f ks n l' ts'
   | .err en=>.err en) else .ok l ts
def qrg(f:TS->TRes)(ks:List Int)(ts:TS):TRes:=match f ts with
 | .ok l ts'=>qai f ks (ts'.toks.length+1) l ts'
 | .err en=>.err en
def tIn(ts:TS):TS:=⟨ts.toks.tail,ts.op+1⟩
def qc0(f:TS->TRes)(o:Int)(ts:TS):TRes:=if ts.op=12 then .err 3 else match f (tIn ts) with
 | .ok x ts'=>.ok (.un ⟨o,0,0,[],[],[]⟩ x) ⟨ts'.toks,ts.op⟩
 | .err en=>.err en
def pp(f:TS->TRes)(ts:TS):TRes:=if ts.op=12 then .err 3 else match f (tIn ts) with
 | .ok t ts'=>if ts'.tk.A=27 then .ok t ⟨ts'.toks.tail,ts.op⟩ else .err 2
 | .err en=>.err en
def qpp(o:Int)(num:Int)(str:List UInt8):Ast:=.leaf ⟨o,0,num,str,[],[]⟩
def ye(fS fE:TS->TRes)(ts:TS):TRes:=
 if ts.tk.A=22 then qc0 fS 14 ts else if ts.tk.A=23 then qc0 fS 15 ts else if ts.tk.A=26 then pp fE ts
 else if ts.tk.A=2 then .ok (qpp 0 0 ts.tk.V) ts.next
 else if ts.tk.A=3 then .ok (qpp 1 ts.tk.K []) ts.next
 else if ts.tk.A=4 then .ok (qpp 2 0 ts.tk.V) ts.next
 else if ts.tk.A=8 then .ok (qpp 3 0 []) ts.next
 else if ts.tk.A=9 then .ok (qpp 4 0 []) ts.next else .err 2
def vqf(l:Ast):Ast:=.un ⟨23,0,0,[],[],[]⟩ l
def tIsNull(l:Ast)(ts:TS):TRes:=
 if ts.next.tk.A=7 then(if ts.next.next.tk.A=15 then .ok (.un ⟨5,0,0,[],[],[]⟩ (vqf l)) ts.next.next.next else .err 2)
 else if ts.next.tk.A=15 then .ok (vqf l) ts.next.next else .err 2
def xk(f:TS->TRes)(l:Ast)(ts:TS):TRes:=if ts.tk.A=10 then(match f ts.next with
  | .ok lo f9=>if f9.tk.A=5 then(match f f9.next with
    | .ok hi Q7=>.ok (.tri ⟨20,0,0,[],[],[]⟩ l lo hi) Q7
    | .err en=>.err en) else .err 2
  | .err en=>.err en) else .err 2
def xe(l:Ast):Nat->List (List UInt8)->TS->TRes
 | 0,_,_=>.err 0
 | n+1,xs,ts=>if ts.tk.A=28 then(if ts.next.tk.A=4 then xe l n (xs++[ts.next.tk.V]) ts.next.next else .err 2)
   else if ts.tk.A=27 then .ok (.un ⟨21,0,0,[],[],xs⟩ l) ts.next else .err 2
def tInRes(l:Ast)(ts:TS):TRes:=
 if ts.next.tk.A=26 then(if ts.next.next.tk.A=4 then xe l (ts.toks.length+1) [ts.next.next.tk.V] ts.next.next.next else .err 2) else .err 2
def tLike(l:Ast)(ts:TS):TRes:=
 if ts.next.tk.A=4 then
  (if ts.next.next.tk.A=13 then
   (if ts.next.next.next.tk.A=4/\ts.next.next.next.tk.V.length=1/\(zJ ts.next.next.next.tk.V ts.next.tk.V).isSome=true
    then .ok (.un ⟨22,0,0,ts.next.tk.V,ts.next.next.next.tk.V,[]⟩ l) ts.next.next.next.next else .err 2)
  else .ok (.un ⟨22,0,0,ts.next.tk.V,[],[]⟩ l) ts.next.next)
 else .err 2
def jW(f:TS->TRes)(bare:Bool)(l:Ast)(ts:TS):TRes:=
 if ts.tk.A=11/\bare=true then tInRes l ts else if ts.tk.A=12/\bare=true then tLike l ts else xk f l ts
def qem(f:TS->TRes)(bare:Bool)(l:Ast)(ts:TS):TRes:=
 if ts.tk.A=16\/ts.tk.A=17\/ts.tk.A=18\/ts.tk.A=19\/ts.tk.A=20\/ts.tk.A=21 then qbz f ts l
 else if ts.tk.A=14 then(if bare=true then tIsNull l ts else .ok l ts)
 else if ts.tk.A=7 then(match jW f bare l ts.next with
  | .ok t ts'=>.ok (.un ⟨5,0,0,[],[],[]⟩ t) ts'
  | .err en=>.err en)
 else if ts.tk.A=10\/ts.tk.A=11\/ts.tk.A=12 then jW f bare l ts
 else .ok l ts
def qen(f:TS->TRes)(ts:TS):TRes:=match f ts with
 | .ok l ts'=>qem f (ts.tk.A==2&&opA l==0) l ts'
 | .err en=>.err en
def yL(fD fT:TS->TRes)(ts:TS):TRes:=if ts.tk.A=7 then qc0 fD 5 ts else fT ts
structure T3 where
 S:TS->TRes
 D:TS->TRes
 E:TS->TRes
def tUp(L:T3):T3:=
 ⟨ye L.S L.E,yL L.D (qen (qrg (qrg (ye L.S L.E) [24,25]) [22,23])),qrg (qrg (yL L.D (qen (qrg (qrg (ye L.S L.E) [24,25]) [22,23]))) [5]) [6]⟩
def vqe:Nat->T3
 | 0=>tUp ⟨λ_=>.err 0,λ_=>.err 0,λ_=>.err 0⟩
 | d+1=>tUp (vqe d)
inductive Str (s:ByteArray):St->List Tk->Prop where
 | nil {st:St} (h:st.tk=qi 0):Str s st []
 | cons {st:St} {L:List Tk} (h:st.tk.A≠0) (r:Str s (qh s st) L):Str s st (st.tk::L)
theorem Str.tk(h:Str s st L):hd L=st.tk:=by
 cases h with
 | nil h=>exact h.symm
 | cons _ _=>rfl
theorem Str.next(h:Str s st L)(j:st.tk.A≠0):Str s (qh s st) L.tail:=by
 cases h with
 | nil h=>rw[h]at j;exact absurd rfl j
 | cons _ r=>exact r
theorem Str.withOp(h:Str s st L)(n:Nat):Str s { st with op:=n } L:=by
 induction h generalizing n with
 | nil h=>exact .nil h
 | cons h r ih=>
  rename_i st L;exact .cons (st:={ st with op:=n }) h (ih n)
theorem Str.len(h:Str s st L):Fine s st->L.length<=s.size - st.M:=by
 induction h with
 | nil h=>intro _;simp
 | cons h r ih=>
  rename_i st L;intro j;have y:=ih j.next;have u:=j.lt h;have q:=j.next.M;simp only[fk];omega
def SimR(s:ByteArray):Res->TRes->Prop
 | .ok t st,.ok t' ts=>x9 t=t'/\Str s st ts.toks/\st.op=ts.op/\Fine s st
 | .err en _,.err en'=>en=en'
 | _,_=>False
def Sim(s:ByteArray)(f:St->Res)(f':TS->TRes):Prop:=∀st ts,Fine s st->Str s st ts.toks->st.op=ts.op->SimR s (f st) (f' ts)
theorem SimR.cases{r:Res}{j:TRes}(h:SimR s r j):(∃t st ts,r=.ok t st/\j=.ok (x9 t) ts/\Str s st ts.toks/\st.op=ts.op/\Fine s st)\/∃en pl,r=.err en pl/\j=.err en:=by
 cases r with
 | ok t st=>
  cases j with
  | ok t' ts=>obtain⟨rfl,y,u,q⟩:=h;exact Am ⟨t,st,ts,rfl,rfl,y,u,q⟩
  | err en=>exact h.elim
 | err en pl=>
  cases j with
  | ok t' ts=>exact h.elim
  | err en'=>obtain rfl:en=en':=h;exact An ⟨en,pl,rfl,rfl⟩
theorem ja{ts:TS}(h:Str s st ts.toks):ts.tk=st.tk:=h.tk
theorem Sim.join{f':TS->TRes}(h:Sim s f f')(st:St)(ts:TS)(l:Ast)(A:Fine s st)(u:Str s st ts.toks)(y:st.op=ts.op)(z:st.tk.A≠0):SimR s (jJ s f st l) (qbz f' ts (x9 l)):=by
 have:=h (qh s st) ts.next A.next (u.next z) y;unfold jJ qbz;rw[ja u];rcases this.cases with⟨t,H,G,q,j,D,C,B⟩|⟨F,pl,q,j⟩;rw[q,j];exact⟨rfl,D,C,B⟩;rw[q,j];rfl
def Shr(f:TS->TRes):Prop:=∀ts t ts',f ts=.ok t ts'->ts'.toks.length<=ts.toks.length
def vnn(g:Ast->TS->TRes):Prop:=∀l ts t ts',g l ts=.ok t ts'->ts'.toks.length<=ts.toks.length
theorem qbg(L:List Tk):L.tail.length<=L.length:=by rw[List.length_tail];omega
theorem qV(ts:TS):ts.next.toks.length<=ts.toks.length:=qbg _
theorem Shr.join{f:TS->TRes}(h:Shr f)(ts:TS)(l t:Ast)(j:TS)(q:qbz f ts l=.ok t j):j.toks.length<=ts.next.toks.length:=by
 unfold qbz at q
 split at q
 rename_i u;injection q with _ y;subst y;exact h _ _ _ u;cases q
theorem Shr.loop{f:TS->TRes}(h:Shr f)(ks:List Int):∀n l ts t j,qai f ks n l ts=.ok t j->j.toks.length<=ts.toks.length:=by
 intro n
 induction n with
 | zero=>intro l ts t j q;rw[qai]at q;injection q with _ u;subst u;exact ui
 | succ n ih=>
  intro l ts t j q;rw[qai]at q
  split at q
  split at q
  rename_i y;exact bs (ih _ _ _ _ q) (bs (h.join _ _ _ _ y) (qV _));cases q;injection q with _ u;subst u;exact ui
theorem Shr.row{f:TS->TRes}(h:Shr f)(ks:List Int):Shr (qrg f ks):=by
 intro ts t q j;unfold qrg at j
 split at j
 rename_i u;exact bs (h.loop ks _ _ _ _ _ j) (h _ _ _ u);cases j
theorem Shr.sign{f:TS->TRes}(h:Shr f)(o:Int):Shr (qc0 f o):=by
 intro ts t q j;unfold qc0 at j
 split at j
 cases j
 split at j
 rename_i u;have y:=h _ _ _ u;injection j with _ z;subst z;exact bs y (qbg ts.toks);cases j
theorem Shr.group{f:TS->TRes}(h:Shr f):Shr (pp f):=by
 intro ts t q j;unfold pp at j
 split at j
 cases j
 split at j
 rename_i u;split at j
 have y:=h _ _ _ u;injection j with _ z;subst z;exact bs (qbg _) (bs y (qbg ts.toks));cases j;cases j
theorem Shr.signed{fS fE:TS->TRes}(q:Shr fS)(y:Shr fE):Shr (ye fS fE):=by
 intro ts t u h;unfold ye at h
 split at h
 .exact q.sign 14 _ _ _ h
 split at h
 .exact q.sign 15 _ _ _ h
 split at h
 .exact y.group _ _ _ h
 split at h
 .injection h with _ j;subst j;exact qV _
 split at h
 .injection h with _ j;subst j;exact qV _
 split at h
 .injection h with _ j;subst j;exact qV _
 split at h
 .injection h with _ j;subst j;exact qV _
 split at h
 injection h with _ j;subst j;exact qV _;cases h
theorem qu8:vnn tIsNull:=by
 intro l ts t q h;unfold tIsNull at h
 split at h
 split at h
 injection h with _ j;subst j;exact bs (qV _) (bs (qV _) (qV _));cases h
 split at h
 injection h with _ j;subst j;exact bs (qV _) (qV _);cases h
theorem qu7(l:Ast):∀n xs ts t j,xe l n xs ts=.ok t j->j.toks.length<=ts.toks.length:=by
 intro n
 induction n with
 | zero=>intro xs ts t j h;rw[xe]at h;cases h
 | succ n ih=>
  intro xs ts t j h;rw[xe]at h
  split at h
  split at h
  exact bs (ih _ _ _ _ h) (bs (qV _) (qV _));cases h
  split at h
  injection h with _ q;subst q;exact qV _;cases h
theorem vqa:vnn tInRes:=by
 intro l ts t j h;unfold tInRes at h
 split at h
 split at h
 exact bs (qu7 l _ _ _ _ _ h) (bs (qV _) (bs (qV _) (qV _)));cases h;cases h
theorem vgg:vnn tLike:=by
 intro l ts t q h;unfold tLike at h
 split at h
 split at h
 split at h
 injection h with _ j;subst j;exact bs (qV _) (bs (qV _) (bs (qV _) (qV _)));cases h;injection h with _ j;subst j;exact bs (qV _) (qV _);cases h
theorem Shr.j{f:TS->TRes}(h:Shr f):vnn (xk f):=by
 intro l ts t q j;unfold xk at j
 split at j
 split at j
 rename_i z;split at j
 split at j
 rename_i y;injection j with _ u;subst u;exact bs (h _ _ _ y) (bs (qV _) (bs (h _ _ _ z) (qV _)));cases j;cases j;cases j;cases j
theorem Shr.keyword{f:TS->TRes}(h:Shr f)(bare:Bool):vnn (jW f bare):=by
 intro l ts t q j;unfold jW at j
 split at j
 .exact vqa _ _ _ _ j
 split at j
 exact vgg _ _ _ _ j;exact h.j _ _ _ _ j
theorem Shr.test{f:TS->TRes}(h:Shr f):Shr (qen f):=by
 intro ts t u j;unfold qen at j
 split at j
 rename_i y;refine bs ?_ (h _ _ _ y);unfold qem at j
 split at j
 .exact bs (h.join _ _ _ _ j) (qV _)
 split at j
 .split at j
  exact qu8 _ _ _ _ j;injection j with _ q;subst q;exact ui
 split at j
 .split at j
  rename_i z;injection j with _ q;subst q;exact bs (h.keyword _ _ _ _ _ z) (qV _);cases j
 split at j
 exact h.keyword _ _ _ _ _ j;injection j with _ q;subst q;exact ui;cases j
theorem Shr.y{q j:TS->TRes}(z:Shr q)(y:Shr j):Shr (yL q j):=by
 intro ts t u h;unfold yL at h
 split at h
 exact z.sign 5 _ _ _ h;exact y _ _ _ h
theorem Str.tail_lt(h:Str s st L)(j:st.tk.A≠0):L.tail.length<L.length:=by
 cases h with
 | nil h=>rw[h]at j;exact absurd rfl j
 | cons _ _=>simp
theorem Sim.loop{f':TS->TRes}(h:Sim s f f')(K:Shr f')(ks:List Int)(H:ks.contains 0=false):∀n j l st ts,ts.toks.length<n->ts.toks.length<j->Fine s st->Str s st ts.toks->st.op=ts.op->SimR s (jg s f ks n l st) (qai f' ks j (x9 l) ts):=by
 intro n
 induction n with
 | zero=>intro j l st ts C;omega
 | succ n ih=>
  intro j l st ts C P B q z;obtain⟨m,rfl⟩:∃m,j=m+1:=⟨j - 1,ub⟩;rw[jg,qai,ja q]
  by_cases hc:ks.contains st.tk.A=true
  have A:st.tk.A≠0:=λe=>by rw[e,H]at hc;cases hc
  rw[bo hc,bo hc];have U:ts.next.toks.length<ts.toks.length:=q.tail_lt A;rcases(h.join st ts l B q z A).cases with⟨t,J,I,y,u,G,F,D⟩|⟨R,pl,y,u⟩;have O:=K.join _ _ _ _ u;rw[y,u];exact ih m t J I ub ub D G F;rw[y,u];rfl;rw[ak hc,ak hc];exact⟨rfl,q,z,B⟩
theorem Sim.row{f':TS->TRes}(h:Sim s f f')(H:Shr f')(ks:List Int)(C:ks.contains 0=false):Sim s (jR s f ks) (qrg f' ks):=by
 intro st ts G z A;unfold jR qrg;rcases(h st ts G z A).cases with⟨t,F,D,q,j,y,B,u⟩|⟨J,pl,q,j⟩;rw[q,j];have I:=y.len u;exact h.loop H ks C _ _ t F D ub ub u y B;rw[q,j];rfl
theorem Sim.sign{f':TS->TRes}(h:Sim s f f')(o:Int)(st:St)(ts:TS)(C:Fine s st)(y:Str s st ts.toks)(u:st.op=ts.op)(z:st.tk.A≠0):SimR s (vJ s f o st) (qc0 f' o ts):=by
 unfold vJ qc0;rw[u]
 split
 rfl;rcases(h (kZ s st) (tIn ts) (C.next.op _) ((y.next z).withOp _) (by show st.op+1=ts.op+1;rw[u])).cases with⟨t,H,G,q,j,B,F,A⟩|⟨D,pl,q,j⟩;rw[q,j];exact⟨rfl,B.withOp _,rfl,A.op _⟩;rw[q,j];rfl
theorem Sim.group{f':TS->TRes}(h:Sim s f f')(st:St)(ts:TS)(F:Fine s st)(A:Str s st ts.toks)(u:st.op=ts.op)(B:st.tk.A≠0):SimR s (vu s f st) (pp f' ts):=by
 unfold vu pp;rw[u]
 split
 rfl;rcases(h (kZ s st) (tIn ts) (F.next.op _) ((A.next B).withOp _) (by show st.op+1=ts.op+1;rw[u])).cases with⟨t,z,D,q,j,y,H,C⟩|⟨G,pl,q,j⟩
 .rw[q,j]
  show SimR s (if z.tk.A=27 then _ else _) (if D.tk.A=27 then _ else _);rw[ja y]
  by_cases bT:z.tk.A=27
  rw[bo bT,bo bT];exact⟨rfl,(y.next (by rw[bT];decide)).withOp _,rfl,C.next.op _⟩;rw[ak bT,ak bT];rfl
 rw[q,j];rfl
theorem Sim.signed{fS fE:St->Res}{u y:TS->TRes}(z:Sim s fS u)(A:Sim s fE y):Sim s (vY s fS fE) (ye u y):=by
 intro st ts q h j;unfold vY ye;rw[ja h]
 by_cases h22:st.tk.A=22
 .rw[bo h22,bo h22];exact z.sign 14 st ts q h j (by rw[h22];decide)
 rw[ak h22,ak h22]
 by_cases M9:st.tk.A=23
 .rw[bo M9,bo M9];exact z.sign 15 st ts q h j (by rw[M9];decide)
 rw[ak M9,ak M9]
 by_cases bU:st.tk.A=26
 .rw[bo bU,bo bU];exact A.group st ts q h j (by rw[bU];decide)
 rw[ak bU,ak bU]
 by_cases h2:st.tk.A=2
 .rw[bo h2,bo h2];exact⟨rfl,h.next (by rw[h2];decide),j,q.next⟩
 rw[ak h2,ak h2]
 by_cases h3:st.tk.A=3
 .rw[bo h3,bo h3];exact⟨rfl,h.next (by rw[h3];decide),j,q.next⟩
 rw[ak h3,ak h3]
 by_cases h4:st.tk.A=4
 .rw[bo h4,bo h4];exact⟨rfl,h.next (by rw[h4];decide),j,q.next⟩
 rw[ak h4,ak h4]
 by_cases h8:st.tk.A=8
 .rw[bo h8,bo h8];exact⟨rfl,h.next (by rw[h8];decide),j,q.next⟩
 rw[ak h8,ak h8]
 by_cases h9:st.tk.A=9
 .rw[bo h9,bo h9];exact⟨rfl,h.next (by rw[h9];decide),j,q.next⟩
 rw[ak h9,ak h9];rfl
theorem Sim.y{z y:St->Res}{j h:TS->TRes}(C:Sim s z j)(B:Sim s y h):Sim s (jy s z y) (yL j h):=by
 intro st ts A q u;unfold jy yL;rw[ja q]
 by_cases h7:st.tk.A=7
 rw[bo h7,bo h7];exact C.sign 5 st ts A q u (by rw[h7];decide);rw[ak h7,ak h7];exact B st ts A q u
def vqv(s:ByteArray)(k:Int)(g:Ast->St->Res)(g':Ast->TS->TRes):Prop:=∀l st ts,Fine s st->Str s st ts.toks->st.op=ts.op->st.tk.A=k->SimR s (g l st) (g' (x9 l) ts)
theorem go1{ts:TS}(u:Fine s st)(h:Str s st ts.toks)(j:st.op=ts.op)(q:st.tk.A≠0):Fine s (qh s st)/\Str s (qh s st) ts.next.toks/\(qh s st).op=ts.next.op:=⟨u.next,h.next q,j⟩
theorem quc(s:tq):vqv s 14 (jk s) tIsNull:=by
 intro l st ts H C D F;obtain⟨z,j,y⟩:=go1 H C D (by rw[F];decide);unfold jk tIsNull;rw[ja j]
 by_cases h7:(qh s st).tk.A=7
 rw[bo h7,bo h7];obtain⟨u,h,q⟩:=go1 z j y (by rw[h7];decide);rw[ja h]
 by_cases T2:(qh s (qh s st)).tk.A=15
 rw[bo T2,bo T2];obtain⟨G,A,B⟩:=go1 u h q (by rw[T2];decide);exact⟨rfl,A,B,G⟩;rw[ak T2,ak T2];rfl;rw[ak h7,ak h7]
 by_cases T2:(qh s st).tk.A=15
 rw[bo T2,bo T2];obtain⟨u,h,q⟩:=go1 z j y (by rw[T2];decide);exact⟨rfl,h,q,u⟩;rw[ak T2,ak T2];rfl
theorem Sim.j{f':TS->TRes}(h:Sim s f f'):∀l st ts,Fine s st->Str s st ts.toks->st.op=ts.op->SimR s (qX s f l st) (xk f' (x9 l) ts):=by
 intro l st ts F8 z I;unfold qX xk;rw[ja z]
 by_cases O5:st.tk.A=10
 .rw[bo O5,bo O5]
  obtain⟨R,F,H⟩:=go1 F8 z I (by rw[O5];decide);rcases(h _ _ R F H).cases with⟨t,B,Q7,y,u,A,Z,Y⟩|⟨U,pl,y,u⟩
  .rw[y,u]
   show SimR s (if B.tk.A=5 then _ else _) (if Q7.tk.A=5 then _ else _);rw[ja A]
   by_cases h5:B.tk.A=5
   rw[bo h5,bo h5];obtain⟨P,D,G⟩:=go1 Y A Z (by rw[h5];decide);rcases(h _ _ P D G).cases with⟨t3,ZQ,C,q,j,O,K,J⟩|⟨U,pl,q,j⟩;rw[q,j];exact⟨rfl,O,K,J⟩;rw[q,j];rfl;rw[ak h5,ak h5];rfl
  rw[y,u];rfl
 rw[ak O5,ak O5];rfl
theorem qub(s:tq)(l:Ast)(pl:Nat):∀n j xs st ts,ts.toks.length<n->ts.toks.length<j->Fine s st->Str s st ts.toks->st.op=ts.op->SimR s (zQ s l pl n xs st) (xe (x9 l) j xs ts):=by
 intro n
 induction n with
 | zero=>intro j xs st ts G;omega
 | succ n ih=>
  intro j xs st ts G K C u A;obtain⟨m,rfl⟩:∃m,j=m+1:=⟨j - 1,ub⟩;rw[zQ,xe,ja u]
  by_cases M8:st.tk.A=28
  rw[bo M8,bo M8];have B:st.tk.A≠0:=by rw[M8];decide
  obtain⟨z,q,y⟩:=go1 C u A B;have J:ts.next.toks.length<ts.toks.length:=u.tail_lt B;rw[ja q]
  by_cases h4:(qh s st).tk.A=4
  rw[bo h4,bo h4];obtain⟨H,D,F⟩:=go1 z q y (by rw[h4];decide);have I:=qV ts.next;exact ih m _ _ _ ub ub H D F;rw[ak h4,ak h4];rfl;rw[ak M8,ak M8]
  by_cases bT:st.tk.A=27
  rw[bo bT,bo bT];obtain⟨z,q,y⟩:=go1 C u A (by rw[bT];decide);exact⟨rfl,q,y,z⟩;rw[ak bT,ak bT];rfl
theorem vqb(s:tq):vqv s 11 (xE s) tInRes:=by
 intro l st ts I C D F;obtain⟨H,u,B⟩:=go1 I C D (by rw[F];decide);unfold xE tInRes;rw[ja u]
 by_cases bU:(qh s st).tk.A=26
 rw[bo bU,bo bU];obtain⟨G,q,A⟩:=go1 H u B (by rw[bU];decide);rw[ja q]
 by_cases h4:(qh s (qh s st)).tk.A=4
 rw[bo h4,bo h4];obtain⟨y,j,z⟩:=go1 G q A (by rw[h4];decide);have P:=j.len y;have O:=qV ts;have K:=qV ts.next;have J:=qV ts.next.next;exact qub s l st.M _ _ _ _ _ ub ub y j z;rw[ak h4,ak h4];rfl;rw[ak bU,ak bU];rfl
theorem vgi(s:tq):vqv s 12 (vp s) tLike:=by
 intro l st ts O F G H;obtain⟨K,u,D⟩:=go1 O F G (by rw[H];decide);unfold vp tLike;rw[ja u]
 by_cases h4:(qh s st).tk.A=4
 rw[bo h4,bo h4];obtain⟨z,j,y⟩:=go1 K u D (by rw[h4];decide);rw[ja j]
 by_cases T4:(qh s (qh s st)).tk.A=13
 rw[bo T4,bo T4];obtain⟨J,q,C⟩:=go1 z j y (by rw[T4];decide);rw[ja q];unfold pd
 by_cases g4:(qh s (qh s (qh s st))).tk.A=4
 rw[bo g4]
 by_cases g1:(qh s (qh s (qh s st))).tk.V.length=1
 rw[bo g1]
 by_cases g2:(zJ (qh s (qh s (qh s st))).tk.V (qh s st).tk.V).isSome=true
 rw[bo g2,bo ⟨g4,g1,g2⟩];obtain⟨I,A,B⟩:=go1 J q C (by rw[g4];decide);exact⟨rfl,A,B,I⟩;rw[ak g2,ak (λh=>g2 h.2.2)];rfl;rw[ak g1,ak (λh=>g1 h.2.1)];rfl;rw[ak g4,ak (λh=>g4 h.1)];rfl;rw[ak T4,ak T4];exact⟨rfl,j,y,z⟩;rw[ak h4,ak h4];rfl
theorem Sim.keyword{f':TS->TRes}(h:Sim s f f')(bare:Bool)(l:Ast)(st:St)(ts:TS)(u:Fine s st)(j:Str s st ts.toks)(q:st.op=ts.op):SimR s (vr s f (xE s) (vp s) bare l st) (jW f' bare (x9 l) ts):=by
 unfold vr jW;rw[ja j]
 by_cases S3:st.tk.A=11/\bare=true
 .rw[bo S3,bo S3];exact vqb s l st ts u j q S3.1
 rw[ak S3,ak S3]
 by_cases F6:st.tk.A=12/\bare=true
 .rw[bo F6,bo F6];exact vgi s l st ts u j q F6.1
 rw[ak F6,ak F6];exact h.j l st ts u j q
theorem Sim.tail{f':TS->TRes}(h:Sim s f f')(bare:Bool)(l:Ast)(st:St)(ts:TS)(u:Fine s st)(j:Str s st ts.toks)(q:st.op=ts.op):SimR s (zg s f (xE s) (vp s) bare l st) (qem f' bare (x9 l) ts):=by
 unfold zg qem;rw[ja j]
 by_cases h16:st.tk.A=16\/st.tk.A=17\/st.tk.A=18\/st.tk.A=19\/st.tk.A=20\/st.tk.A=21
 .rw[bo h16,bo h16];exact h.join st ts l u j q ub
 rw[ak h16,ak h16]
 by_cases aX:st.tk.A=14
 .rw[bo aX,bo aX]
  cases bare;exact⟨rfl,j,q,u⟩;exact quc s l st ts u j q aX
 rw[ak aX,ak aX]
 by_cases h7:st.tk.A=7
 .rw[bo h7,bo h7]
  obtain⟨C,A,B⟩:=go1 u j q (by rw[h7];decide);rcases(h.keyword bare l _ _ C A B).cases with⟨t,J,I,z,y,G,F,D⟩|⟨H,pl,z,y⟩;rw[z,y];exact⟨rfl,G,F,D⟩;rw[z,y];rfl
 rw[ak h7,ak h7]
 by_cases O5:st.tk.A=10\/st.tk.A=11\/st.tk.A=12
 rw[bo O5,bo O5];exact h.keyword bare l st ts u j q;rw[ak O5,ak O5];exact⟨rfl,j,q,u⟩
theorem Sim.test{f':TS->TRes}(h:Sim s f f'):Sim s (zh s f (xE s) (vp s)) (qen f'):=by
 intro st ts F u A;unfold zh qen;rcases(h st ts F u A).cases with⟨t,z,y,q,j,D,C,B⟩|⟨G,pl,q,j⟩
 .rw[q,j]
  show SimR s (zg s f (xE s) (vp s) (qau st t) t z) (qem f' (ts.tk.A==2&&opA (x9 t)==0) (x9 t) y);rw[ja u,qji];exact h.tail _ t z y B D C
 rw[q,j];rfl
structure Sim3(s:ByteArray)(L:L3)(L':T3):Prop where
 S:Sim s L.S L'.S
 D:Sim s L.D L'.D
 E:Sim s L.E L'.E
 s':Shr L'.S
 d':Shr L'.D
 e':Shr L'.E
theorem vi0{L:L3}{L':T3}(h:Sim3 s L L'):Sim3 s (up3 s L) (tUp L'):=by
 have z:=Sim.signed h.S h.E;have j:=Shr.signed h.s' h.e';have G:=z.row j [24,25] rfl;have u:=j.row [24,25];have D:=G.row u [22,23] rfl;have B:=u.row [22,23];have F:=D.test;have C:=B.test;have A:=Sim.y h.D F;have q:=Shr.y h.d' C;have H:=A.row q [5] rfl;have y:=q.row [5];exact⟨z,A,H.row y [6] rfl,j,q,y.row [6]⟩
theorem qpn(s:tq):∀d,Sim3 s (lvl s d) (vqe d):=by
 intro d
 induction d with
 | zero=>exact vi0 ⟨(λ_ _ _ _ _=>rfl),(λ_ _ _ _ _=>rfl),(λ_ _ _ _ _=>rfl),(λ_ _ _ h=>by cases h),(λ_ _ _ h=>by cases h),(λ_ _ _ h=>by cases h)⟩
 | succ d ih=>exact vi0 ih
theorem qki(h:s.size<=200)(st:St):(qh s st).tk.V.length<=200:=bs (qbe s st) h
def Bp(p:Pay):Prop:=p.V.length<=200/\p.P.length<=1000
def qi6:Ast->Prop
 | .leaf p=>Bp p
 | .un p x=>Bp p/\qi6 x
 | .bin p x y=>Bp p/\qi6 x/\qi6 y
 | .tri p x y z=>Bp p/\qi6 x/\qi6 y/\qi6 z
theorem bp0(op pl num:Int):Bp ⟨op,pl,num,[],[],[]⟩:=⟨uc,uc⟩
theorem bp1{s:tu}(h:s.length<=200):Bp ⟨op,pl,num,s,[],[]⟩:=⟨h,uc⟩
theorem vh9(H:s.size<=200):QC s qi6 λk=>k.V.length<=200:=
 ⟨H,qki H,λ_ h=>⟨λ_=>bp1 h,bp0 _ _ _,bp1 h,bp0 _ _ _,bp0 _ _ _⟩,λ_ _ _ _ h=>⟨bp0 _ _ _,h⟩,λ_ _ _ a b=>⟨bp0 _ _ _,a,b⟩,λ_ _ _ _ a b c=>⟨bp0 _ _ _,a,b,c⟩,λ_ _ _ j _ h=>⟨⟨uc,j⟩,h⟩,λ_ _ _ _ q _ h=>⟨⟨q,uc⟩,h⟩⟩
inductive Lx:List UInt8->List Tk->Prop where
 | nil {r:List UInt8} (h:qQ r 0=qi 0):Lx r []
 | cons {r:List UInt8} {k:Tk} {L:List Tk} (e:qQ r 0=k) (h:k.A≠0) (t:Lx (r.drop (vk r 0)) L):Lx r (k::L)
theorem qde(l:tu)(k:Nat):qS l k=k+qS (l.drop k) 0:=by
 unfold qS;rw[dw,ee]
theorem qdf(l:tu)(k:Nat):qQ l k=qQ (l.drop k) 0:=by
 unfold qQ;rw[qde l k,<-th,dj]
 by_cases h:k+qS (l.drop k) 0<l.length
 rw[bo h,bo ub];rw[ak h,ak ub]
theorem qnr(l:tu)(k:Nat)(j:k<=l.length):vk l k=k+vk (l.drop k) 0:=by
 unfold vk;rw[qde l k,<-th,dj]
 by_cases h:k+qS (l.drop k) 0<l.length
 rw[bo h,bo ub];omega;rw[ak h,ak ub];omega
theorem qe5(h:Lx r L):∀st:St,st.B<=s.size->s.data.toList.drop st.B=r->Str s (qh s st) L:=by
 induction h with
 | nil h=>
  intro st _ j;refine .nil ?_;show qQ s.data.toList st.B=_;rw[qdf,j,h]
 | cons e h t ih=>
  intro st u j;rename_i r k L
  have q:(qh s st).tk=k:=by
   show qQ s.data.toList st.B=_;rw[qdf,j,e]
  rw[<-q];refine .cons (by rw[q];exact h) (ih _ (qG s st u).B ?_);show s.data.toList.drop (vk s.data.toList st.B)=_;rw[qnr _ _ (by rw[qu];exact u),<-th,j]
theorem qwc(n:Nat):jj (dig n)=true:=by
 unfold jj qbt;rw[qmw];simp;omega
theorem qqg(n:Nat):∀c∈qcs n,jj c=true:=by
 induction n using Nat.strongRecOn with
 | ind n ih=>
  intro c j
  by_cases h:n<10
  rw[gO h]at j;simp at j;subst j;exact qwc n;rw[pW h,cr]at j;rcases j with j|j;exact ih (n / 10) ub c j;simp at j;subst j;exact qwc n
theorem vja(n:Nat):qcs n≠[]:=by
 by_cases h:n<10
 rw[gO h];simp;rw[pW h];simp
theorem qdy(p:UInt8->Bool):∀(l r:tu),(∀c∈l,p c=true)->(∀c,r.head?=G c->p c=false)->qA p (l++r)=l.length:=by
 intro l
 induction l with
 | nil=>
  intro r _ h
  cases r with
  | nil=>rfl
  | cons c t=>simp[qA,h c rfl]
 | cons c t ih=>
  intro r j u;have:=ih r (λx q=>j x (by simp[q])) u;simp[qA,j c uc,this]
theorem qmq(l:tu)(c:UInt8):∀k,vK k (l++[c])=vK k l * 10+(c.toNat - 48):=by
 induction l with
 | nil=>intro k;rfl
 | cons d t ih=>
  intro k;show vK (k * 10+(d.toNat - 48)) (t++[c])=vK (k * 10+(d.toNat - 48)) t * 10+(c.toNat - 48);rw[ih]
theorem qsc(n:Nat):vK 0 (qcs n)=n:=by
 induction n using Nat.strongRecOn with
 | ind n ih=>
  by_cases h:n<10
  .rw[gO h]
   show 0 * 10+((dig n).toNat - 48)=n;rw[qmw];omega
  rw[pW h,qmq,ih (n / 10) ub,qmw];omega
theorem vay(n:Nat)(C:n<=9223372036854775807)(r:tu)(B:∀c,r.head?=G c->jj c=false):qQ (qcs n++r) 0=⟨3,n,[]⟩/\vk (qcs n++r) 0=(qcs n).length:=by
 obtain⟨c,t,j⟩:∃c t,qcs n=c::t:=by
  cases h:qcs n with
  | nil=>exact absurd h (vja n)
  | cons c t=>exact⟨c,t,rfl⟩
 have hd:jj c=true:=qqg n c (by rw[j];simp)
 have A:spU c=false:=by
  unfold jj qbt at hd;unfold spU spB;simp at hd |-;omega
 have u:yH c=false:=by
  unfold jj qbt at hd;unfold yH qbj;simp at hd |-;omega
 have q:=qdy jj (qcs n) r (qqg n) B
 have y:qS (qcs n++r) 0=0:=by
  unfold qS;rw[dw,j];simp[qA,A]
 have z:0<(qcs n++r).length:=by rw[j];simp
 constructor
 .unfold qQ
  rw[y,bo z,dw]
  have:vh (qcs n++r)=xN (qcs n++r):=by
   conv=>lhs;rw[j]
   show(if yH c then _ else if jj c then _ else _)=_;rw[u,hd,j];rfl
  rw[this];unfold xN;rw[q,List.take_left,qsc,bo ub]
 unfold vk;rw[y,bo z,dw,ee]
 have:xq (qcs n++r)=qA jj (qcs n++r):=by
  conv=>lhs;rw[j]
  show(if yH c then _ else if jj c then _ else _)=_;rw[u,hd,j];rfl
 rw[this,q]
theorem qxj(q:n<=9223372036854775807)(j:∀c,r.head?=G c->jj c=false)(h:Lx r L):Lx (qcs n++r) (⟨3,n,[]⟩::L):=by
 obtain⟨y,u⟩:=vay n q r j;refine .cons y (show(3:Int)≠0 by decide) ?_;rw[u,List.drop_left];exact h
theorem zt(h:Lx r L):Lx (32::r) L:=by
 have q:qS (32::r) 0=qS r 0+1:=by unfold qS;simp[qA,show spU 32=true from rfl]
 have j:qQ (32::r) 0=qQ r 0:=by
  unfold qQ;rw[q]
  by_cases hl:qS r 0<r.length
  rw[bo hl,bo ud];rfl;rw[ak hl,ak ud]
 have u:vk (32::r) 0=vk r 0+1:=by
  unfold vk;rw[q]
  by_cases hl:qS r 0<r.length
  rw[bo hl,bo ud,lu];omega;rw[ak hl,ak ud];simp
 cases h with
 | nil h=>exact .nil (j.trans h)
 | cons e h t=>exact .cons (j.trans e) h (by rw[u,lu];exact t)
theorem g9:Lx [] []:=.nil rfl
theorem qcx:(prog.info? 4).map (λi=>(i.zero,i.size,i.bytes))=G (G (Ah false),1,1):=uh
def BoolsAt(w:Ao)(b n:Nat)(e:Nat->Bool):Prop:=∀j,j<=n->w.cell? ⟨b,j,O⟩=G (Ah (e j))
def kv(p:Pc)(t:List UInt8)(e:Nat->Bool)(k:Nat):Nat->Ap:=λj=>Ah (if j<=k then nextB p t e j else false)
structure FromAt(w W:Ao)(p:Pc)(t:ByteArray)(e:Nat->Bool)(m k:Nat):Prop where
 row:W.rowIs (w.1.size+1) 4 m (kv p t.data.toList e k)
 c0:W.cell? ⟨w.1.size,0,O⟩=G (I J p.A)
 c1:W.cell? ⟨w.1.size,1,O⟩=G (I .u8 p.c.toNat)
 lt:w.1.size+1<W.1.size
 below:Below w.1.size w W
theorem qwq(t:tq)(k:Nat)(h:k<t.size):t.data.toList.getD k 0=t[k]:=by
 rw[bi,ag (by rw[qu];exact h),qD t k h];rfl
theorem FromAt.drew{p:Pc}(h:FromAt w W p t e m k):FromAt w W.drew p t e m k:=⟨h.row.drew,h.c0,h.c1,h.lt,h.below.drew⟩
theorem FromAt.step{p:Pc}(h:FromAt w W p t e m k)(v:Bool)(hv:nextB p t.data.toList e (k+1)=v):FromAt w (W.setCell ⟨w.1.size+1,k+1,O⟩ (Ah v)) p t e m (k+1):=by
 refine⟨(h.row.set (k+1) (Ah v)).congr λi _=>?_, ?_, ?_,by simpa using h.lt,h.below.setCell (by show w.1.size<=w.1.size+1;omega) _⟩;unfold kv
 by_cases hi:i=k+1
 subst hi;simp[hv];rw[ak hi]
 by_cases hl:i<=k
 rw[bo hl,bo ub];rw[ak hl,ak ub]
 .simp[go_sem,h.c0]
 simp[go_sem,h.c1]
theorem qn8(w:Ao)(p:Pc)(t:tq)(e:Nat->Bool)(m:Nat)(y:(p.A==2)=true):FromAt w ((w.alloc (Al #[I J p.A,I .u8 p.c.toNat] 266)).alloc (Al ((madeCells #[Ah false] m).setIfInBounds 0 (Ah (e 0))) 4)) p t e m 0:=by
 have q:((madeCells #[Ah false] m).setIfInBounds 0 (Ah (e 0))).size=m:=by rw[Array.size_setIfInBounds];exact size_madeCells _ _
 have u:=World.rowIs_alloc (w.alloc (Al #[I J p.A,I .u8 p.c.toNat] 266)) ((madeCells #[Ah false] m).setIfInBounds 0 (Ah (e 0))) 4 (kv p t.data.toList e 0) (λi j=>by
  rw[q]at j;rw[ov]
  by_cases h0:i=0
  subst h0;rw[bo rfl,bo (by rw[size_madeCells _ _];exact j),kv,bo ui,nextB,y];rfl;rw[ak (λh=>h0 h.symm),kv,ak ub]
  simp[madeCells,j,Nat.mod_one])
 rw[q,show(w.alloc (Al #[I J p.A,I .u8 p.c.toNat] 266)).1.size=w.1.size+1 by simp]at u;refine⟨u, ?_, ?_,uc,qK _ _ _⟩;rw[bw _ _ _ uc,ch _ _ _ _ rfl];rfl;rw[bw _ _ _ uc,ch _ _ _ _ rfl];rfl
theorem qn7(w:Ao)(p:Pc)(t:tq)(e:Nat->Bool)(m:Nat)(q:(p.A==2)=false):FromAt w ((w.alloc (Al #[I J p.A,I .u8 p.c.toNat] 266)).alloc (Al (madeCells #[Ah false] m) 4)) p t e m 0:=by
 have j:=World.rowIs_made (w.alloc (Al #[I J p.A,I .u8 p.c.toNat] 266)) (Ah false) m 4;rw[show(w.alloc (Al #[I J p.A,I .u8 p.c.toNat] 266)).1.size=w.1.size+1 by simp]at j;refine⟨j.congr λi _=>?_, ?_, ?_,uc,qK _ _ _⟩;unfold kv
 split
 rename_i h;obtain rfl:i=0:=ub;rw[nextB,q];rfl;rfl;rw[bw _ _ _ uc,ch _ _ _ _ rfl];rfl;rw[bw _ _ _ uc,ch _ _ _ _ rfl];rfl
theorem vdk(p:Pc)(e:Nat->Bool)(u cap:Nat)(t:tq)(ht:t.size<=1000)(w:Ao)(Z:BoolsAt w u t.size e)(U:u<w.1.size):
  Calls prog 215 #[pcV p,C (G ⟨u,0,O⟩) (t.size+1) cap,Y t] w λen w'=>∃nb,en=Ak (C (G ⟨nb,0,O⟩) (t.size+1) (t.size+1))/\w.1.size<=nb/\nb<w'.1.size/\BoolsAt w' nb t.size (nextB p t.data.toList e)/\Xb w w':=by
 obtain⟨m,hm⟩:=it (t.size+1);have ON:=run_make_row' (P:=prog) 263 4 (Ah false) 1 underlying263 qcx rfl J J m ub ub;rw[hm];have wE:0<m:=ub;have HE:=qd Z;have e0:=Z 0 (bt _);have d0:¬w.1.size+1=u:=ub;have B:=qd (World.rowIs_made (w.alloc (Al #[I J p.A,I .u8 p.c.toNat] 266)) (Ah false) m 4);have wA:=(q9 B).cell (i:=0) wE;have rY:=(q9 B).frozen 0;rw[show(w.alloc (Al #[I J p.A,I .u8 p.c.toNat] 266)).1.size=w.1.size+1 by simp]at wA rY B;cases A8:(p.A==2)
 .have K:Hid (FromAt w ((w.alloc (Al #[I J p.A,I .u8 p.c.toNat] 266)).alloc (Al (madeCells #[Ah false] m) 4)) p t e m 0):=qd (qn7 w p t e m A8)
  conv=>arg 3;simp only[pcV]
  go_enter func215,ntmps215
  go_wp2
  go_loopw [22] (λi wr=>∃k:Nat,k<=t.size/\i=I J k/\Hid (FromAt w wr p t e m k)) (λi _=>t.size - (intOf i).toNat)
  exact⟨0,bt _,rfl,K⟩;obtain⟨k,hk,rfl,q⟩:=hrel;have H:=(q9 q).c0;have fc1:=(q9 q).c1;have D:=(q9 q).lt
  by_cases U:k<t.size
  .have ek:=(q.below.cell (p:=⟨u,k,O⟩) (by assumption)).trans (HE k ub)
   have rk:=(q9 q).row.cell (i:=k+1) ub;have rf:=(q9 q).row.frozen (k+1);have CB:k+1<m:=ub;have UH:k<m:=ub;have O8:(0:Int)<=(k:Int)+1:=ub;have iL:(k:Int)+1<(m:Int):=ub;have fL:IntKind.i64.wrap ((k:Int)+1)=(k:Int)+1:=IntWalk.i64_in _ ub;cases A4:(p.A==1)
   .cases hek:e k
    .rw[hek]at ek
     go_wp2
     go_region
     all_goals
      go_wp2
      go_roundw
      case rel=>exact⟨k+1,ub,by go_num,qd (q.drew.step _ (by rw[nextB,A8,A4,hek];simp))⟩
      simp[intOf];omega
    rw[hek]at ek;cases hx:(t[k]==p.c)
    all_goals
     have F7:=(ke t[k] p.c).trans hx
     go_wp2
     go_region_held3 (λW=>Xc W u k (Ah true)/\Xc W w.1.size 1 (I .u8 p.c.toNat)) (go_keep) (fail)
     go_wp2
     go_roundw
     case rel=>exact⟨k+1,ub,by go_num,qd (q.drew.step _ (by rw[nextB,A8,A4,hek,qwq t k U,hx];simp))⟩
     simp[intOf];omega
   obtain⟨bk,y⟩:∃b,e k=b:=⟨_,rfl⟩;rw[y]at ek
   go_wp2
   go_roundw
   case rel=>exact⟨k+1,ub,by go_num,qd (q.step _ (by rw[nextB,A8,A4,y];simp))⟩
   simp[intOf];omega
  go_wp2
  go_ret;obtain rfl:k=t.size:=ub;exact⟨_,rfl,ub,D,λj F=>by have:=(q9 q).row.cell (i:=j) ub;rw[this,kv,bo F],q.below⟩
 have K:Hid (FromAt w ((w.alloc (Al #[I J p.A,I .u8 p.c.toNat] 266)).alloc (Al ((madeCells #[Ah false] m).setIfInBounds 0 (Ah (e 0))) 4)) p t e m 0):=qd (qn8 w p t e m A8)
 conv=>arg 3;simp only[pcV]
 go_enter func215,ntmps215
 go_wp2
 go_loopw [22] (λi wr=>∃k:Nat,k<=t.size/\i=I J k/\Hid (FromAt w wr p t e m k)) (λi _=>t.size - (intOf i).toNat)
 exact⟨0,bt _,rfl,K⟩;obtain⟨k,hk,rfl,q⟩:=hrel;have H:=(q9 q).c0;have D:=(q9 q).lt
 by_cases U:k<t.size
 .have ek:=(q.below.cell (p:=⟨u,k+1,O⟩) (by assumption)).trans (HE (k+1) ub)
  have rk:=(q9 q).row.cell (i:=k+1) ub;have rf:=(q9 q).row.frozen (k+1);have z:wr.cell? ⟨w.1.size+1,k,O⟩=G (Ah (nextB p t.data.toList e k)):=by have:=(q9 q).row.cell (i:=k) ub;rw[this,kv,bo ui]
  obtain⟨nk,A⟩:∃b,nextB p t.data.toList e k=b:=⟨_,rfl⟩;rw[A]at z;have R:=qd A;clear A;have CB:k+1<m:=ub;have UH:k<m:=ub;have O8:(0:Int)<=(k:Int)+1:=ub;have iL:(k:Int)+1<(m:Int):=ub;cases hek:e (k+1)
  all_goals
   rw[hek]at ek
   go_wp2
   go_roundw
   case rel=>exact⟨k+1,ub,by go_num,qd (q.step _ (by rw[nextB,A8,hek,q9 R];simp))⟩
   simp[intOf];omega
 go_wp2
 go_ret;obtain rfl:k=t.size:=ub;exact⟨_,rfl,ub,D,λj F=>by have:=(q9 q).row.cell (i:=j) ub;rw[this,kv,bo F],q.below⟩
theorem vp5(x y:V):zL 5 x y (yq x):=by
 have CON:=qd (λw=>qrm x w);exact xF
theorem vp6(x y:V):zL 6 x y (qi3 x y):=by
 have CON:=qd (λw=>vgy x y w);exact xF
theorem vp7(x y:V):zL 7 x y (orV x y):=by
 have CON:=qd (λw=>vn7 x y w);exact xF
theorem vp8(x y:V):zL 8 x y (eqV x y):=by
 have CON:=qd (λw=>qfm x y w);exact xF
theorem vp9(x y:V):zL 9 x y (yq (eqV x y)):=by
 intro w;have CON:=qd (λw=>qfm x y w);have z:=qd (λw=>qrm (eqV x y) w)
 conv=>arg 3;simp only[vV]
 go_enter func128,ntmps128
 repeat ((fail_if_success (with_reducible refine wp_exit ?_));go_step)
 with_reducible refine wp_exit ?_
 repeat (first|(with_reducible refine gF ?_)|(with_reducible refine xr ?_)|((with_reducible refine zq ?hne ?_);(case hne=>rfl)))
 with_reducible refine zi ?_
 go_wp2_with(first|(go_at_call 178;refine be (CON _) λC A=>?_)|(go_at_call 180;refine be (z _) λq u=>?_;have j:=qg A u;obtain⟨B,D⟩:=qk j;have F:w.1.size+2<q.1.size:=(by have:=j.size;simp at this;omega);simp only[vV]))
 refine bj (by simp[go_sem,B]<;>rfl) rfl ⟨rfl, ?_⟩;exact((((qg (zk _ _ _ _) j).setCell ud _).setCell ud _).setCell ud _)
theorem vjw(x y:V):zL 10 x y (yQ x y):=by
 have CON:=qd (λw=>qks x y w);exact xF
theorem vjx(x y:V):zL 11 x y (leV x y):=by
 have CON:=qd (λw=>pq x y w);exact xF
theorem vjy(x y:V):zL 12 x y (yQ y x):=by
 have CON:=qd (λw=>qks y x w);exact xF
theorem vjz(x y:V):zL 13 x y (leV y x):=by
 have CON:=qd (λw=>pq y x w);exact xF
theorem vk2(x y:V)(q:Rng x.K)(j:Rng y.K):zL 16 x y (qkw x y):=by
 have CON:=qd (λw=>qrk x y q j w);exact xF
theorem vk3(x y:V)(q:Rng x.K)(j:Rng y.K):zL 17 x y (quf x y):=by
 have CON:=qd (λw=>qao x y q j w);exact xF
theorem vk4(x y:V)(q:Rng x.K)(j:Rng y.K):zL 18 x y (qky x y):=by
 have CON:=qd (λw=>qhy x y q j w);exact xF
theorem vk5(x y:V)(j:Rng x.K):zL 19 x y (qsh x y):=by
 have CON:=qd (λw=>qpt x y j w);exact xF
theorem qx5(op:Int)(x y:V)(J:¬op=5)(I:¬op=6)(H:¬op=7)(G:¬op=8)(F:¬op=9)(Z:¬op=12)(U:¬op=10)(O:¬op=13)(R:¬op=11)(K:¬op=14)(C:¬op=16)(P:¬op=15)(B:¬op=17)(A:¬op=18)(z:¬op=19):zL op x y (bV (x.A==0)):=by
 intro w;have CON:=qd (λw=>qpu x w);obtain⟨r,u⟩:=it (bV (x.A==0));rw[u]at CON |-
 conv=>arg 3;simp only[vV]
 go_enter func128,ntmps128
 repeat ((fail_if_success (with_reducible refine wp_exit ?_));go_step)
 with_reducible refine wp_exit ?_
 repeat (first|(with_reducible refine gF ?_)|(with_reducible refine xr ?_)|((with_reducible refine zq ?hne ?_);(case hne=>rfl)))
 with_reducible refine zi ?_
 go_wp2_with(go_at_call 186;refine be (CON _) λq j=>?_;obtain⟨D,Y⟩:=qk j;have B8:w.1.size+2<q.1.size:=(by have:=j.size;simp at this;omega);simp only[vV])
 refine bj (by simp[go_sem,D]<;>rfl) rfl ⟨rfl, ?_⟩;exact((((qg (zk _ _ _ _) j).setCell ud _).setCell ud _).setCell ud _)
theorem vdw(op:Int)(q:¬op=14)(u:¬op=15)(x y:V)(h:Rng x.K)(j:Rng y.K):zL op x y (jY op x y):=by
 by_cases h5:op=5
 .subst h5;exact vp5 x y
 by_cases h6:op=6
 .subst h6;exact vp6 x y
 by_cases h7:op=7
 .subst h7;exact vp7 x y
 by_cases h8:op=8
 .subst h8;exact vp8 x y
 by_cases h9:op=9
 .subst h9;exact vp9 x y
 by_cases F6:op=12
 .subst F6;exact vjy x y
 by_cases O5:op=10
 .subst O5;exact vjw x y
 by_cases T4:op=13
 .subst T4;exact vjz x y
 by_cases S3:op=11
 .subst S3;exact vjx x y
 by_cases h16:op=16
 .subst h16;exact vk2 x y h j
 by_cases h17:op=17
 .subst h17;exact vk3 x y h j
 by_cases h18:op=18
 .subst h18;exact vk4 x y h j
 by_cases h19:op=19
 .subst h19;exact vk5 x y h
 have z:jY op x y=bV (x.A==0):=by
  rw[jY,ak h5,ak h6,ak h7,ak h8,ak h9,ak F6,ak O5,ak T4,ak S3,ak q,ak h16,ak u,ak h17,ak h18,ak h19]
 rw[z];exact qx5 op x y h5 h6 h7 h8 h9 F6 O5 T4 S3 q h16 u h17 h18 h19
theorem pg{id:Nat}{Q:Exit->Act->Ao->Prop}{a:Act}(h:Q .normal a w):Exit.inBlock id Q .normal a w:=h
structure SignAt(w W2:Ao)(x:V):Prop where
 a0:W2.cell? ⟨w.1.size,0,O⟩=G (I J (iV 0).A)
 a1:W2.cell? ⟨w.1.size,1,O⟩=G (I J (iV 0).K)
 a2:W2.cell? ⟨w.1.size,2,O⟩=G (Y (BS (iV 0).V))
 b0:W2.cell? ⟨w.1.size+1,0,O⟩=G (I J x.A)
 b1:W2.cell? ⟨w.1.size+1,1,O⟩=G (I J x.K)
 b2:W2.cell? ⟨w.1.size+1,2,O⟩=G (Y (BS x.V))
 r0:W2.cell? ⟨w.1.size+2,0,O⟩=G (I J 0)
 r1:W2.cell? ⟨w.1.size+2,1,O⟩=G (I J 0)
 r2:W2.cell? ⟨w.1.size+2,2,O⟩=G (Y ⟨#[]⟩)
 fz:∀j,W2.frozen? ⟨w.1.size+2,j,O⟩=false
 lt:w.1.size+2<W2.1.size
 below:Below w.1.size w W2
theorem qfg(w u W2:Ao)(x y:V)(z:Below ((((w.alloc (Al #[I J x.A,I J x.K,Y (BS x.V)] 57)).alloc (Al #[I J y.A,I J y.K,Y (BS y.V)] 57)).alloc (Al #[I J 0,I J 0,Y ⟨#[]⟩] 57)).drew).1.size ((((w.alloc (Al #[I J x.A,I J x.K,Y (BS x.V)] 57)).alloc (Al #[I J y.A,I J y.K,Y (BS y.V)] 57)).alloc (Al #[I J 0,I J 0,Y ⟨#[]⟩] 57)).drew) u)(h2:((((((u.setCell ⟨w.1.size,0,O⟩ (I J (iV 0).A)).setCell ⟨w.1.size,1,O⟩ (I J (iV 0).K)).setCell ⟨w.1.size,2,O⟩ (Y (BS (iV 0).V))).setCell ⟨w.1.size+1,0,O⟩ (I J x.A)).setCell ⟨w.1.size+1,1,O⟩ (I J x.K)).setCell ⟨w.1.size+1,2,O⟩ (Y (BS x.V)))=W2):SignAt w W2 x:=by
 subst h2;have Z:=z.size;simp at Z;obtain⟨q,hf⟩:=qk z;have U:=(q w.1.size 0 ud).trans (show _=G (I J x.A) by rw[ir,bw _ _ _ ud,bw _ _ _ uc,ch _ _ _ _ rfl];rfl);have R:=(q w.1.size 1 ud).trans (show _=G (I J x.K) by rw[ir,bw _ _ _ ud,bw _ _ _ uc,ch _ _ _ _ rfl];rfl);have P:=(q w.1.size 2 ud).trans (show _=G (Y (BS x.V)) by rw[ir,bw _ _ _ ud,bw _ _ _ uc,ch _ _ _ _ rfl];rfl);have K:=(q (w.1.size+1) 0 uc).trans (show _=G (I J y.A) by rw[ir,bw _ _ _ uc,ch _ _ _ _ uc];rfl);have H:=(q (w.1.size+1) 1 uc).trans (show _=G (I J y.K) by rw[ir,bw _ _ _ uc,ch _ _ _ _ uc];rfl);have F:=(q (w.1.size+1) 2 uc).trans (show _=G (Y (BS y.V)) by rw[ir,bw _ _ _ uc,ch _ _ _ _ uc];rfl);have D:=(q (w.1.size+2) 0 uc).trans (show _=G (I J 0) by rw[ir,ch _ _ _ _ uc];rfl);have C:=(q (w.1.size+2) 1 uc).trans (show _=G (I J 0) by rw[ir,ch _ _ _ _ uc];rfl);have B:=(q (w.1.size+2) 2 uc).trans (show _=G (Y ⟨#[]⟩) by rw[ir,ch _ _ _ _ uc];rfl);have A:Xf u (w.1.size+2):=λj=>(hf (w.1.size+2) j uc).trans (by rw[World.frozen?_drew,mu _ _ _ _ uc])
 refine⟨?_, ?_, ?_, ?_, ?_, ?_, ?_, ?_, ?_,λj=>?_, ?_, ?_⟩
 .simp[go_sem,U]
 .simp[go_sem,R]
 .simp[go_sem,P]
 .simp[go_sem,K]
 .simp[go_sem,H]
 .simp[go_sem,F]
 .simp[go_sem,D]
 .simp[go_sem,C]
 .simp[go_sem,B]
 .simp[go_sem,A]
 simp;omega;exact(((((((qg ((zk w _ _ _).drew) z).setCell uc _).setCell uc _).setCell uc _).setCell uc _).setCell uc _).setCell uc _)
theorem vk0(x y:V)(B:Rng x.K):zL 14 x y (qkw (iV 0) x):=by
 intro w;have CON:=qd (λw=>qrk (iV 0) x vhw B w);obtain⟨r,C⟩:=it (qkw (iV 0) x);rw[C]at CON |-;clear C B
 conv=>arg 3;simp only[vV]
 go_enter func128,ntmps128
 repeat ((fail_if_success (with_reducible refine wp_exit ?_));go_step)
 with_reducible refine wp_exit ?_
 repeat (first|(with_reducible refine gF ?_)|(with_reducible refine xr ?_)|((with_reducible refine zq ?hne ?_);(case hne=>rfl)))
 with_reducible refine zi ?_
 go_wp2
 go_region_with(go_at_call 89;refine be (kF 0 _) λA z=>?_;obtain⟨P,U⟩:=qk z;have F5:w.1.size+2<A.1.size:=(by have:=z.size;simp at this;omega);simp only[vV])
 all_goals(repeat (first|(with_reducible refine pg ?_)|(with_reducible refine zi ?_)))
 all_goals
  generalize iN:World.setCell _ _ _=W2;have R:=qd (qfg w A W2 x y z iN);obtain⟨a0,a1,a2,b0,b1,b2,O,K,H,fz,lt,bel⟩:=q9 R;clear iN z P U
  go_wp2_with(go_at_call 182;refine be (CON _) λu q=>?_;have G:Xc u (w.1.size+2) 0 (I J 0):=((qk q).1 _ 0 lt).trans O;have F:Xc u (w.1.size+2) 1 (I J 0):=((qk q).1 _ 1 lt).trans K;have D:Xc u (w.1.size+2) 2 (Y ⟨#[]⟩):=((qk q).1 _ 2 lt).trans H;have f1:Xf u (w.1.size+2):=(λj=>((qk q).2 _ j lt).trans (fz j));have Z:=qd (qg bel q);clear q;simp only[vV])
  refine bj (by simp[go_sem,G,F,D]<;>rfl) rfl ⟨rfl, ?_⟩;exact((Z.setCell ud _).setCell ud _).setCell ud _
theorem vk1(x y:V)(B:Rng x.K):zL 15 x y (quf (iV 0) x):=by
 intro w;have CON:=qd (λw=>qao (iV 0) x vhw B w);obtain⟨r,C⟩:=it (quf (iV 0) x);rw[C]at CON |-;clear C B
 conv=>arg 3;simp only[vV]
 go_enter func128,ntmps128
 repeat ((fail_if_success (with_reducible refine wp_exit ?_));go_step)
 with_reducible refine wp_exit ?_
 repeat (first|(with_reducible refine gF ?_)|(with_reducible refine xr ?_)|((with_reducible refine zq ?hne ?_);(case hne=>rfl)))
 with_reducible refine zi ?_
 go_wp2
 go_region_with(go_at_call 89;refine be (kF 0 _) λA z=>?_;obtain⟨P,U⟩:=qk z;have F5:w.1.size+2<A.1.size:=(by have:=z.size;simp at this;omega);simp only[vV])
 all_goals(repeat (first|(with_reducible refine pg ?_)|(with_reducible refine zi ?_)))
 all_goals
  generalize iN:World.setCell _ _ _=W2;have R:=qd (qfg w A W2 x y z iN);obtain⟨a0,a1,a2,b0,b1,b2,O,K,H,fz,lt,bel⟩:=q9 R;clear iN z P U
  go_wp2_with(go_at_call 183;refine be (CON _) λu q=>?_;have G:Xc u (w.1.size+2) 0 (I J 0):=((qk q).1 _ 0 lt).trans O;have F:Xc u (w.1.size+2) 1 (I J 0):=((qk q).1 _ 1 lt).trans K;have D:Xc u (w.1.size+2) 2 (Y ⟨#[]⟩):=((qk q).1 _ 2 lt).trans H;have f1:Xf u (w.1.size+2):=(λj=>((qk q).2 _ j lt).trans (fz j));have Z:=qd (qg bel q);clear q;simp only[vV])
  refine bj (by simp[go_sem,G,F,D]<;>rfl) rfl ⟨rfl, ?_⟩;exact((Z.setCell ud _).setCell ud _).setCell ud _
structure Stop(d:UInt8):Prop where
 goe:kJ d=false
 dig:jj d=false
 quo:(d==39)=false
 eq:(d==61)=false
 gt:(d==62)=false
theorem qfe(p:UInt8->Bool)(h:p d=false)(y:tu):∀l,qA p (l++d::y)=qA p l:=by
 intro l
 induction l with
 | nil=>show(if p d then _ else 0)=0;rw[h];rfl
 | cons c t ih=>show(if p c then qA p (t++d::y)+1 else 0)=if p c then qA p t+1 else 0;rw[ih]
theorem qzv(p:UInt8->Bool)(y:tu):∀l,qA p l<l.length->qA p (l++y)=qA p l:=by
 intro l
 induction l with
 | nil=>intro h;exact absurd h (Nat.not_lt_zero _)
 | cons c t ih=>
  intro h;show(if p c then qA p (t++y)+1 else 0)=if p c then qA p t+1 else 0
  have j:qA p (c::t)=if p c then qA p t+1 else 0:=rfl
  rw[j]at h
  by_cases hp:p c=true
  rw[bo hp]at h;rw[bo hp,bo hp,ih (by simp at h;omega)];rw[ak hp,ak hp]
theorem qbs(hd:Stop d)(y:tu)(c:UInt8)(t:tu):qB (c::t++d::y)=qB (c::t):=by
 show(if yH c then qA kJ (t++d::y)+1 else 0)=if yH c then qA kJ t+1 else 0
 rw[qfe kJ hd.goe]
theorem qhu(l z:tu)(n:Nat)(h:n<=l.length):(l++z).take n=l.take n:=by
 rw[List.take_append,show n - l.length=0 by omega,List.take_zero,fw]
theorem qyq(hd:(d==39)=false)(y:tu):∀(n:Nat) (l:tu),l.length<=n->∀r,vm l=G r->vm (l++d::y)=G r:=by
 intro n
 induction n with
 | zero=>
  intro l j r h;have:l=[]:=de ub;subst this;simp[vm]at h
 | succ n ih=>
  intro l j r h
  match l,j,h with
  | [],_,h=>simp[vm]at h
  | [c],_,h=>
   simp only[vm]at h
   split at h
   .rename_i hc
    show vm (c::d::y)=_;rw[vm,bo hc,ak (by rw[hd];decide)];exact h
   simp at h
  | c::e::t,j,h=>
   simp only[fk]at j;show vm (c::e::(t++d::y))=_;rw[vm]at h |-
   by_cases hc:(c==39)=true
   rw[bo hc]at h |-
   by_cases he:(e==39)=true
   rw[bo he]at h |-
   cases hq:vm t with
   | none=>rw[hq]at h;simp at h
   | some q=>rw[hq]at h;rw[ih t ub q hq];exact h
   rw[ak he]at h |-;exact h;rw[ak hc]at h |-
   cases hq:vm (e::t) with
   | none=>rw[hq]at h;simp at h
   | some q=>
    rw[hq]at h;have:=ih (e::t) ud q hq;rw[dk]at this;rw[this];exact h
theorem qj3(hd:Stop d)(y:tu)(c:UInt8)(t:tu):yJ (c::t++d::y)=yJ (c::t):=by
 cases t with
 | nil=>
  show(if c==60&&d==62||(c==60||c==62)&&d==61 then 2 else 1)=1;rw[hd.eq,hd.gt];simp
 | cons e t=>rfl
theorem qxn(hd:Stop d)(y:tu)(c:UInt8)(t:tu):xG (c::t++d::y)=xG (c::t):=by
 unfold xG;rw[qj3 hd y c t,qhu (c::t) (d::y) _ (qxo _ uc)]
 cases t with
 | nil=>
  have:((c::[]++d::y).take 2==[60,62])=false:=by
   show(c==60&&(d==62&&true))=false;rw[hd.gt];simp
  rw[this]
  have:((c::[]).take 2==([60,62]:tu))=false:=by
   show(c==60&&false)=false;simp
  rw[this]
 | cons e t=>rfl
theorem qwk(hd:Stop d)(y:tu)(c:UInt8)(t:tu)(h:(vh (c::t)).A≠1):vh (c::t++d::y)=vh (c::t)/\xq (c::t++d::y)=xq (c::t):=by
 have q:vh (c::t)=if yH c then j9 (c::t) else if jj c then xN (c::t) else if c==39 then vP (c::t) else qi (xG (c::t)):=rfl
 have A:vh (c::t++d::y)=if yH c then j9 (c::t++d::y) else if jj c then xN (c::t++d::y) else if c==39 then vP (c::t++d::y) else qi (xG (c::t++d::y)):=rfl
 have z:xq (c::t)=if yH c then qB (c::t) else if jj c then qA jj (c::t) else if c==39 then yi (c::t) else yJ (c::t):=rfl
 have u:xq (c::t++d::y)=if yH c then qB (c::t++d::y) else if jj c then qA jj (c::t++d::y) else if c==39 then yi (c::t++d::y) else yJ (c::t++d::y):=rfl
 rw[q]at h;rw[q,A,z,u]
 by_cases hb:yH c=true
 .rw[bo hb,bo hb,bo hb,bo hb]
  refine⟨?_,qbs hd y c t⟩;unfold j9;rw[qbs hd y c t,qhu _ _ _ (xh _)]
 rw[ak hb]at h;rw[ak hb,ak hb,ak hb,ak hb]
 by_cases hg:jj c=true
 .rw[bo hg,bo hg,bo hg,bo hg]
  have j:=qfe jj hd.dig y (c::t);refine⟨?_,j⟩;unfold xN;rw[j,qhu _ _ _ (gC _ _)]
 rw[ak hg]at h;rw[ak hg,ak hg,ak hg,ak hg]
 by_cases hq:(c==39)=true
 rw[bo hq]at h;rw[bo hq,bo hq,bo hq,bo hq]
 cases hf:vm ((c::t).drop 1) with
 | none=>exfalso;unfold vP at h;rw[hf]at h;exact h rfl
 | some r=>
  have B:vm ((c::t++d::y).drop 1)=G r:=qyq hd.quo y _ t ui r hf;unfold vP yi;rw[hf,B];exact⟨rfl,rfl⟩
 rw[ak hq,ak hq,ak hq,ak hq,qxn hd y c t,qj3 hd y c t];exact⟨rfl,rfl⟩
theorem qx3{c:Prop}[Decidable c]{a b:Int}(q:a≠0)(j:b≠0):(if c then a else b)≠0:=by
 by_cases h:c
 rw[bo h];exact q;rw[ak h];exact j
theorem vpb(l:tu):kwK l≠0:=by
 unfold kwK
 repeat refine qx3 ue ?_
 decide
theorem vea(l:tu):qgn l≠0:=by
 unfold qgn
 repeat refine qx3 ue ?_
 decide
theorem vn9(l:tu):(j9 l).A≠0:=by
 unfold j9
 by_cases h:yf (l.take (qB l))=2
 .rw[bo h];show(2:Int)≠0;decide
 rw[ak h];exact vpb _
theorem vpn(l:tu):(xN l).A≠0:=by
 unfold xN
 by_cases h:vK 0 (l.take (qA jj l))<=9223372036854775807
 .rw[bo h];show(3:Int)≠0;decide
 rw[ak h];show(1:Int)≠0;decide
theorem vma(l:tu):(vP l).A≠0:=by
 unfold vP
 cases vm (l.drop 1) with
 | none=>show(1:Int)≠0;decide
 | some r=>show(4:Int)≠0;decide
theorem vkf(l:tu):xG l≠0:=by
 unfold xG;exact qx3 ue (vea _)
theorem qqj(l:tu):(vh l).A≠0:=by
 cases l with
 | nil=>show(1:Int)≠0;decide
 | cons c t=>
  show(if yH c then j9 (c::t) else if jj c then xN (c::t) else if c==39 then vP (c::t) else qi (xG (c::t))).A≠0
  by_cases hb:yH c=true
  .rw[bo hb];exact vn9 _
  rw[ak hb]
  by_cases hg:jj c=true
  .rw[bo hg];exact vpn _
  rw[ak hg]
  by_cases hq:(c==39)=true
  .rw[bo hq];exact vma _
  rw[ak hq];exact vkf _
theorem qxv(h:(qQ l 0).A≠0):qS l 0<l.length:=by
 apply Decidable.byContradiction;intro j;unfold qQ at h;rw[ak j]at h;exact h rfl
theorem vei(h:qQ l 0=qi 0):¬qS l 0<l.length:=by
 intro j;unfold qQ at h;rw[bo j]at h;exact qqj _ (by rw[h];rfl)
theorem veh(hd:Stop d)(y:tu)(l:tu)(A:(qQ l 0).A≠0)(u:(qQ l 0).A≠1):qQ (l++d::y) 0=qQ l 0/\vk (l++d::y) 0=vk l 0:=by
 have j:=qxv A
 have z:qS (l++d::y) 0=qS l 0:=by
  unfold qS at j |-;rw[dw]at j |-;rw[dw,qzv _ _ _ ub]
 have q:qS l 0<(l++d::y).length:=by rw[ce];omega
 unfold qQ vk;unfold qQ at u;rw[bo j]at u;rw[z,bo j,bo q,bo j,bo q,List.drop_append_of_le_length (Nat.le_of_lt j)]
 cases hr:l.drop (qS l 0) with
 | nil=>have:=congrArg List.length hr;rw[dj]at this;simp at this;omega
 | cons c t=>
  rw[hr]at u;obtain⟨C,B⟩:=qwk hd y c t u;rw[C,B];exact⟨rfl,rfl⟩
theorem vra{c:UInt8}(y:spU c=true)(h:Lx r L):Lx (c::r) L:=by
 have q:qS (c::r) 0=qS r 0+1:=by unfold qS;simp[qA,y]
 have j:qQ (c::r) 0=qQ r 0:=by
  unfold qQ;rw[q]
  by_cases hl:qS r 0<r.length
  rw[bo hl,bo ud];rfl;rw[ak hl,ak ud]
 have u:vk (c::r) 0=vk r 0+1:=by
  unfold vk;rw[q]
  by_cases hl:qS r 0<r.length
  rw[bo hl,bo ud,lu];omega;rw[ak hl,ak ud];simp
 cases h with
 | nil h=>exact .nil (by rw[j];exact h)
 | cons e h t=>exact .cons (by rw[j];exact e) h (by rw[u,lu];exact t)
theorem vpi{z:tu}(h:Lx z M):∀l:tu,l.length<=qA spU l->Lx (l++z) M:=by
 intro l
 induction l with
 | nil=>intro _;exact h
 | cons c t ih=>
  intro j;have q:qA spU (c::t)=if spU c then qA spU t+1 else 0:=rfl
  rw[q]at j
  by_cases hp:spU c=true
  rw[bo hp]at j;exact vra hp (ih (by simp at j;omega));rw[ak hp]at j;simp at j
theorem qj2(hd:Stop d){y:tu}(u:Lx (d::y) M)(h:Lx l L):(∀k∈L,k.A≠1)->Lx (l++d::y) (L++M):=by
 induction h with
 | @nil r h=>
  intro _;have:=vei h;unfold qS at this;rw[dw]at this;exact vpi u r ub
 | @cons r k L e h t ih=>
  intro j;obtain⟨A,z⟩:=veh hd y r (by rw[e];exact h) (by rw[e];exact j k uc);refine .cons (by rw[A];exact e) h ?_;rw[z,List.drop_append_of_le_length (qdg r 0)];exact ih (λk q=>j k (by simp[q]))
theorem qgm:∀(n:Nat) (l:tu),l.length<=n->∃L,Lx l L:=by
 intro n
 induction n with
 | zero=>
  intro l j;have:l=[]:=de ub;subst this;exact⟨[],g9⟩
 | succ n ih=>
  intro l j
  by_cases h:qS l 0<l.length
  have q:qQ l 0=vh (l.drop (qS l 0)):=by unfold qQ;rw[bo h]
  have y:0<vk l 0:=by
   unfold vk;rw[bo h];have:=qaz (l.drop (qS l 0)) (by rw[dj];omega);omega
  obtain⟨L,u⟩:=ih (l.drop (vk l 0)) (by rw[dj];omega);exact⟨_,.cons rfl (by rw[q];exact qqj _) u⟩;exact⟨[],.nil (by unfold qQ;rw[ak h])⟩
theorem vi3:Stop 41:=⟨rfl,rfl,rfl,rfl,rfl⟩
theorem van:Stop 32:=⟨rfl,rfl,rfl,rfl,rfl⟩
theorem qT{ts:TS}(j:c≠0)(h:ts.tk.A=c):ts.toks≠[]:=by
 intro e;unfold TS.tk at h;rw[e]at h;exact j h.symm
section
variable {X:List Tk} {k o:Nat} {f f':TS->TRes}
end
def ShA:Ast->Prop
 | .leaf p=>0<=p.op/\p.op<=4
 | .un p x=>(p.op=5\/p.op=14\/p.op=15\/p.op=21\/p.op=22\/p.op=23)/\(p.op=21->p.P≠[])/\(p.op=21\/p.op=22\/p.op=23->opA x=0)/\ShA x
 | .bin p x y=>(6<=p.op/\p.op<=13\/16<=p.op/\p.op<=19)/\ShA x/\ShA y
 | .tri p x y z=>p.op=20/\ShA x/\ShA y/\ShA z
def ndA:Ast->Nat
 | .leaf _=>1
 | .un p x=>1+p.P.length+ndA x
 | .bin _ x y=>1+ndA x+ndA y
 | .tri _ x y z=>1+ndA x+ndA y+ndA z
theorem ves(k:Int):6<=qef k/\qef k<=13\/16<=qef k/\qef k<=19:=by
 unfold qef
 have ite':∀{c:Prop} [Decidable c] {a b:Int},(6<=a/\a<=13\/16<=a/\a<=19)->(6<=b/\b<=13\/16<=b/\b<=19)->(6<=(if c then a else b)/\(if c then a else b)<=13\/16<=(if c then a else b)/\(if c then a else b)<=19):=by
  intro c _ a b q j
  by_cases h:c
  rw[bo h];exact q;rw[ak h];exact j
 repeat refine ite' ue ?_
 decide
def Nd(f:TS->TRes):Prop:=∀ts t ts',f ts=.ok t ts'->ShA t/\ndA t+ts'.toks.length<=ts.toks.length
def NdT(l:Ast)(ts:TS)(t:Ast)(ts':TS):Prop:=ShA l->ShA t/\ndA t+ts'.toks.length<=ndA l+ts.toks.length
theorem jK{ts:TS}(h:ts.toks≠[]):ts.next.toks.length+1=ts.toks.length:=by
 cases ht:ts.toks with
 | nil=>exact absurd ht h
 | cons a r=>show(ts.toks.tail).length+1=_;rw[ht];rfl
theorem Nd.join{f:TS->TRes}(h:Nd f)(ts:TS)(l t:Ast)(j:TS)(u:ts.toks≠[])(q:qbz f ts l=.ok t j):NdT l ts t j:=by
 intro y;unfold qbz at q
 split at q
 .rename_i hr
  injection q with A z;subst A z;obtain⟨a,b⟩:=h _ _ _ hr;have:=jK u;refine⟨⟨ves _,y,a⟩, ?_⟩;show 1+ndA l+_+_<=_;omega
 cases q
theorem Nd.loop{f:TS->TRes}(h:Nd f)(ks:List Int)(C:ks.contains 0=false):∀n l ts t q,qai f ks n l ts=.ok t q->NdT l ts t q:=by
 intro n
 induction n with
 | zero=>intro l ts t q j u;rw[qai]at j;injection j with A z;subst A z;exact⟨u,ui⟩
 | succ n ih=>
  intro l ts t q j u;rw[qai]at j
  by_cases hc:ks.contains ts.tk.A=true
  rw[bo hc]at j
  have y:ts.toks≠[]:=by
   intro e;have:ts.tk.A=0:=by unfold TS.tk;rw[e];rfl
   rw[this,C]at hc;cases hc
  split at j
  rename_i B;obtain⟨a,b⟩:=h.join _ _ _ _ y B u;obtain⟨c,d⟩:=ih _ _ _ _ j a;exact⟨c,ub⟩;cases j;rw[ak hc]at j;injection j with A z;subst A z;exact⟨u,ui⟩
theorem Nd.row{f:TS->TRes}(h:Nd f)(ks:List Int)(y:ks.contains 0=false):Nd (qrg f ks):=by
 intro ts t q j;unfold qrg at j
 split at j
 rename_i u;obtain⟨a,b⟩:=h _ _ _ u;obtain⟨c,d⟩:=h.loop ks y _ _ _ _ _ j a;exact⟨c,ub⟩;cases j
theorem Nd.sign{f:TS->TRes}(h:Nd f)(o:Int)(A:o=5\/o=14\/o=15)(ts:TS)(t:Ast)(q:TS)(u:ts.toks≠[])(j:qc0 f o ts=.ok t q):ShA t/\ndA t+q.toks.length<=ts.toks.length:=by
 unfold qc0 at j
 split at j
 cases j
 split at j
 .rename_i f9 hr
  injection j with z y;subst z y;obtain⟨a,b⟩:=h _ _ _ hr;have:=jK u;refine⟨⟨by simp only;omega,λe=>?_,λe=>?_,a⟩, ?_⟩;simp only at e;omega;simp only at e;omega;show 1+0+_+f9.toks.length<=_;have e:(tIn ts).toks.length=ts.next.toks.length:=rfl;omega
 cases j
theorem Nd.group{f:TS->TRes}(h:Nd f)(ts:TS)(t:Ast)(q:TS)(j:pp f ts=.ok t q):ShA t/\ndA t+q.toks.length<=ts.toks.length:=by
 unfold pp at j
 split at j
 cases j
 split at j
 .rename_i f9 hr
  split at j
  .injection j with y u
   subst y u;obtain⟨a,b⟩:=h _ _ _ hr;have e:(tIn ts).toks.length<=ts.toks.length:=qbg _;have z:=qbg f9.toks;refine⟨a, ?_⟩;show _+f9.toks.tail.length<=_;omega
  cases j
 cases j
theorem qdd{o n:Int}{s:tu}(j:0<=o/\o<=4){ts:TS}(h:ts.toks≠[]):ShA (qpp o n s)/\ndA (qpp o n s)+ts.next.toks.length<=ts.toks.length:=by
 have:=jK h;exact⟨j,by show 1+_<=_;omega⟩
theorem Nd.signed{f g:TS->TRes}(y:Nd f)(A:Nd g):Nd (ye f g):=by
 intro ts t z j;unfold ye at j
 by_cases h22:ts.tk.A=22
 .rw[bo h22]at j;exact y.sign 14 ub _ _ _ (qT ue h22) j
 rw[ak h22]at j
 by_cases M9:ts.tk.A=23
 .rw[bo M9]at j;exact y.sign 15 ub _ _ _ (qT ue M9) j
 rw[ak M9]at j
 by_cases bU:ts.tk.A=26
 .rw[bo bU]at j;exact A.group _ _ _ j
 rw[ak bU]at j
 by_cases h2:ts.tk.A=2
 .rw[bo h2]at j;injection j with u q;subst u q;exact qdd ue (qT ue h2)
 rw[ak h2]at j
 by_cases h3:ts.tk.A=3
 .rw[bo h3]at j;injection j with u q;subst u q;exact qdd ue (qT ue h3)
 rw[ak h3]at j
 by_cases h4:ts.tk.A=4
 .rw[bo h4]at j;injection j with u q;subst u q;exact qdd ue (qT ue h4)
 rw[ak h4]at j
 by_cases h8:ts.tk.A=8
 .rw[bo h8]at j;injection j with u q;subst u q;exact qdd ue (qT ue h8)
 rw[ak h8]at j
 by_cases h9:ts.tk.A=9
 .rw[bo h9]at j;injection j with u q;subst u q;exact qdd ue (qT ue h9)
 rw[ak h9]at j;cases j
theorem qxu(l:Ast)(B:opA l=0)(ts:TS)(t:Ast)(q:TS)(u:ts.toks≠[])(j:tIsNull l ts=.ok t q):NdT l ts t q:=by
 intro A;have n0:=jK u;unfold tIsNull at j
 by_cases h7:ts.next.tk.A=7
 .rw[bo h7]at j
  have C:=jK (qT ue h7)
  by_cases T2:ts.next.next.tk.A=15
  .rw[bo T2]at j;injection j with z y;subst z y
   have D:=jK (qT ue T2);exact⟨⟨uc,λe=>by simp at e,λe=>by simp at e,⟨uc,λe=>by simp at e,λ_=>B,A⟩⟩,by show 1+0+(1+0+ndA l)+_<=_;omega⟩
  rw[ak T2]at j;cases j
 rw[ak h7]at j
 by_cases T2:ts.next.tk.A=15
 .rw[bo T2]at j;injection j with z y;subst z y
  have C:=jK (qT ue T2);exact⟨⟨uc,λe=>by simp at e,λ_=>B,A⟩,by show 1+0+ndA l+_<=_;omega⟩
 rw[ak T2]at j;cases j
theorem qxt(l:Ast)(A:opA l=0):∀n xs ts t q,xs≠[]->ShA l->xe l n xs ts=.ok t q->ShA t/\ndA t+q.toks.length<=1+xs.length+ndA l+ts.toks.length:=by
 intro n
 induction n with
 | zero=>intro xs ts t q _ _ j;rw[xe]at j;cases j
 | succ n ih=>
  intro xs ts t q z u j;rw[xe]at j
  by_cases M8:ts.tk.A=28
  rw[bo M8]at j;have y:=jK (qT ue M8)
  by_cases h4:ts.next.tk.A=4
  rw[bo h4]at j;have D:=jK (qT ue h4);obtain⟨a,b⟩:=ih _ _ _ _ uc u j;refine⟨a, ?_⟩;rw[ce]at b;simp only[du]at b;omega;rw[ak h4]at j;cases j;rw[ak M8]at j
  by_cases bT:ts.tk.A=27
  .rw[bo bT]at j;injection j with C B;subst C B
   have y:=jK (qT ue bT);exact⟨⟨uc,λ_=>z,λ_=>A,u⟩,by show 1+xs.length+ndA l+_<=_;omega⟩
  rw[ak bT]at j;cases j
theorem vrb(l:Ast)(z:opA l=0)(ts:TS)(t:Ast)(q:TS)(u:ts.toks≠[])(j:tInRes l ts=.ok t q):NdT l ts t q:=by
 intro y;have n0:=jK u;unfold tInRes at j
 by_cases bU:ts.next.tk.A=26
 rw[bo bU]at j;have B:=jK (qT ue bU)
 by_cases h4:ts.next.next.tk.A=4
 rw[bo h4]at j;have A:=jK (qT ue h4);obtain⟨a,b⟩:=qxt l z _ _ _ _ _ uc y j;simp only[du]at b;exact⟨a,ub⟩;rw[ak h4]at j;cases j;rw[ak bU]at j;cases j
theorem vkm(l:Ast)(B:opA l=0)(ts:TS)(t:Ast)(q:TS)(u:ts.toks≠[])(j:tLike l ts=.ok t q):NdT l ts t q:=by
 intro A;have n0:=jK u;have F:=qV ts.next;have D:=qV ts.next.next;have C:=qV ts.next.next.next;unfold tLike at j
 split at j
 .split at j
  .split at j
   .injection j with z y;subst z y
    exact⟨⟨uc,λe=>by simp at e,λ_=>B,A⟩,by show 1+0+ndA l+_<=_;omega⟩
   cases j
  injection j with z y;subst z y;exact⟨⟨uc,λe=>by simp at e,λ_=>B,A⟩,by show 1+0+ndA l+_<=_;omega⟩
 cases j
theorem Nd.j{f:TS->TRes}(h:Nd f)(l:Ast)(ts:TS)(t:Ast)(q:TS)(j:xk f l ts=.ok t q):NdT l ts t q:=by
 intro u;unfold xk at j
 by_cases O5:ts.tk.A=10
 .rw[bo O5]at j
  have n0:=jK (qT ue O5)
  split at j
  .rename_i f9 e1
   obtain⟨a,b⟩:=h _ _ _ e1
   split at j
   .split at j
    .rename_i e2
     obtain⟨c,d⟩:=h _ _ _ e2;have A:=qV f9;injection j with z y;subst z y;exact⟨⟨rfl,u,a,c⟩,by show 1+ndA l+_+_+_<=_;omega⟩
    cases j
   cases j
  cases j
 rw[ak O5]at j;cases j
theorem Nd.keyword{f:TS->TRes}(h:Nd f)(bare:Bool)(l:Ast)(u:bare=true->opA l=0)(ts:TS)(t:Ast)(q:TS)(j:jW f bare l ts=.ok t q):NdT l ts t q:=by
 unfold jW at j
 split at j
 .rename_i g;exact vrb _ (u g.2) _ _ _ (qT ue g.1) j
 split at j
 rename_i g;exact vkm _ (u g.2) _ _ _ (qT ue g.1) j;exact h.j _ _ _ _ j
theorem Nd.test{f:TS->TRes}(h:Nd f):Nd (qen f):=by
 intro ts t q j;unfold qen at j
 split at j
 .rename_i f9 hr
  obtain⟨a,b⟩:=h _ _ _ hr
  suffices hs:∀l,ShA l->qem f (ts.tk.A==2&&opA l==0) l f9=.ok t q->NdT l f9 t q by
   obtain⟨c,d⟩:=hs _ a j a;exact⟨c,ub⟩
  intro l z j;have A:(ts.tk.A==2&&opA l==0)=true->opA l=0:=λe=>by simp only[dh,ew]at e;exact e.2
  unfold qem at j
  split at j
  .rename_i g
   refine h.join _ _ _ _ ?_ j;rcases g with e|e|e|e|e|e<;>exact qT ue e
  split at j
  .rename_i g
   split at j
   rename_i B;exact qxu _ (A B) _ _ _ (qT ue g) j;injection j with y u;subst y u;exact λ_=>⟨z,ui⟩
  split at j
  .rename_i g
   have n0:=jK (qT ue g)
   split at j
   .rename_i hk
    injection j with y u;subst y u;intro z;obtain⟨c,d⟩:=h.keyword _ _ A _ _ _ hk z;exact⟨⟨uc,λe=>by simp at e,λe=>by simp at e,c⟩,by show 1+0+_+_<=_;omega⟩
   cases j
  split at j
  exact h.keyword _ _ A _ _ _ j;injection j with y u;subst y u;exact λ_=>⟨z,ui⟩
 cases j
theorem Nd.y{u q:TS->TRes}(A:Nd u)(z:Nd q):Nd (yL u q):=by
 intro ts t y j;unfold yL at j
 split at j
 rename_i g;exact A.sign 5 ub _ _ _ (qT ue g) j;exact z _ _ _ j
structure Nd3(L:T3):Prop where
 S:Nd L.S
 D:Nd L.D
 E:Nd L.E
theorem vpm{L:T3}(h:Nd3 L):Nd3 (tUp L):=by
 have j:=Nd.signed h.S h.E;have u:=((j.row [24,25] rfl).row [22,23] rfl).test;have q:=Nd.y h.D u;exact⟨j,q,(q.row [5] rfl).row [6] rfl⟩
theorem vhm:∀d,Nd3 (vqe d):=by
 intro d
 induction d with
 | zero=>exact vpm ⟨(λ_ _ _ h=>by cases h),(λ_ _ _ h=>by cases h),(λ_ _ _ h=>by cases h)⟩
 | succ d ih=>exact vpm ih
theorem vph(h:Lx l L):L.length<=l.length:=by
 induction h with
 | nil _=>exact bt _
 | @cons r k L e h t ih=>
  have j:=qxv (l:=r) (by rw[e];exact h)
  have q:0<vk r 0:=by
   unfold vk;rw[bo j];have:=qaz (r.drop (qS r 0)) (by rw[dj];omega);omega
  have:=qdg r 0;rw[dj]at ih;simp only[fk];omega
theorem qre:∀t,ShA (x9 t)->ShA t:=by
 intro t
 induction t with
 | leaf p=>exact λh=>h
 | un p x ih=>exact λh=>⟨h.1,h.2.1,λe=>by rw[<-qji];exact h.2.2.1 e,ih h.2.2.2⟩
 | bin p x y ihx ihy=>exact λh=>⟨h.1,ihx h.2.1,ihy h.2.2⟩
 | tri p x y z ihx ihy ihz=>exact λh=>⟨h.1,ihx h.2.1,ihy h.2.2.1,ihz h.2.2.2⟩
theorem ved:∀t,ndA (x9 t)=ndA t:=by
 intro t
 induction t with
 | leaf p=>rfl
 | un p x ih=>show 1+_+ndA (x9 x)=_;rw[ih];rfl
 | bin p x y ihx ihy=>show 1+ndA (x9 x)+ndA (x9 y)=_;rw[ihx,ihy];rfl
 | tri p x y z ihx ihy ihz=>show 1+ndA (x9 x)+ndA (x9 y)+ndA (x9 z)=_;rw[ihx,ihy,ihz];rfl
theorem vb3{t:Ast}(h:vq s=.ok t):s.size<=200/\∃L ts,Lx s.data.toList L/\(vqe 12).E ⟨L,0⟩=.ok (x9 t) ts:=by
 unfold vq at h
 by_cases hs:s.size<=200
 rw[bo hs]at h;refine⟨hs, ?_⟩;obtain⟨L,y⟩:=qgm _ s.data.toList ui;have B:Str s (qh s st0) L:=qe5 y st0 (bt _) (dw);have C:=qG s st0 (bt _);have A:=(qpn s 12).E (qh s st0) ⟨L,0⟩ C B rfl;rcases A.cases with⟨u,st,ts,j,z,H,G,F⟩|⟨D,pl,j,z⟩;rw[j]at h
 change qmy u st=_ at h
 unfold qmy at h
 by_cases hk:st.tk.A=0
 rw[bo hk]at h
 cases hc:quu (qy u) with
 | some q=>rw[hc]at h;cases h
 | none=>
  rw[hc]at h;injection h with h;subst h;exact⟨L,ts,y,z⟩
 rw[ak hk]at h;cases h;rw[j]at h;cases h;rw[ak hs]at h;cases h
theorem kC{t:Ast}(h:vq s=.ok t):ShA t/\ndA t<=200:=by
 obtain⟨u,L,ts,q,j⟩:=vb3 h;obtain⟨a,b⟩:=(vhm 12).E _ _ _ j;have:=vph q;rw[qu]at this;rw[ved]at b;refine⟨qre t a, ?_⟩;show ndA t<=200;have e:(⟨L,0⟩:TS).toks.length=L.length:=rfl;omega
def Bq(p:Pay):Prop:=p.h.length<=1/\∀x∈p.P,x.length<=200
def BqA:Ast->Prop
 | .leaf p=>Bq p
 | .un p x=>Bq p/\BqA x
 | .bin p x y=>Bq p/\BqA x/\BqA y
 | .tri p x y z=>Bq p/\BqA x/\BqA y/\BqA z
theorem bq0(op pl num:Int):Bq ⟨op,pl,num,[],[],[]⟩:=⟨uc,uc⟩
theorem bq1{s:tu}:Bq ⟨op,pl,num,s,[],[]⟩:=⟨uc,uc⟩
theorem vqx(H:s.size<=200):QC s BqA λk=>k.V.length<=200:=
 ⟨H,qki H,λ_ _=>⟨λ_=>bq1,bq0 _ _ _,bq1,bq0 _ _ _,bq0 _ _ _⟩,λ_ _ _ _ h=>⟨bq0 _ _ _,h⟩,λ_ _ _ a b=>⟨bq0 _ _ _,a,b⟩,λ_ _ _ _ a b c=>⟨bq0 _ _ _,a,b,c⟩,λ_ _ _ _ q h=>⟨⟨uc,λx m=>by obtain⟨k,y,u⟩:=q x m;rw[u];exact y⟩,h⟩,λ_ _ _ _ _ j h=>⟨⟨by show List.length _<=1;rcases j with rfl|j;exact bt _;exact Nat.le_of_eq j.1,uc⟩,h⟩⟩
def RowB(w W:Ao)(g n:Nat)(f:Nat->Bool):Prop:=BoolsAt W g n f/\Below w.1.size w W/\g<W.1.size
theorem RowB.drewN{f:Nat->Bool}(h:RowB w W g n f)(k:Nat):RowB w (W.drewN k) g n f:=⟨h.1,ep h.2.1 _,h.2.2⟩
structure NowAt(w W:Ao)(g nb:Nat)(pc:Pc)(T:List UInt8)(f:Nat->Bool)(n i:Nat):Prop where
 row:W.rowIs nb 4 (n+1) (λj=>Ah (if j<i then nextB pc T f j else false))
 old:BoolsAt W g n f
 u:Below w.1.size w W
 lt:nb<W.1.size
 glt:g<nb
section
variable {w W:Ao} {g nb n i:Nat} {pc:Pc} {T:tu} {f:Nat->Bool}
theorem NowAt.drewN(h:NowAt w W g nb pc T f n i)(k:Nat):NowAt w (W.drewN k) g nb pc T f n i:=⟨h.row,h.old,ep h.u _,h.lt,h.glt⟩
theorem NowAt.skip(h:NowAt w W g nb pc T f n i)(hv:nextB pc T f i=false):NowAt w W g nb pc T f n (i+1):=by
 refine⟨h.row.congr λj _=>?_,h.old,h.u,h.lt,h.glt⟩
 by_cases hj:j=i
 subst hj;rw[ak (Nat.lt_irrefl _),bo (dt _),hv]
 by_cases h1:j<i
 rw[bo h1,bo ub];rw[ak h1,ak ub]
theorem NowAt.set(h:NowAt w W g nb pc T f n i)(u:w.1.size<=nb)(v:Bool)(hv:nextB pc T f i=v):NowAt w (W.setCell ⟨nb,i,O⟩ (Ah v)) g nb pc T f n (i+1):=by
 refine⟨(h.row.set i (Ah v)).congr λj _=>?_,λj q=>?_,h.u.setCell u _,by simpa using h.lt,h.glt⟩
 by_cases q:j=i
 subst q;rw[bo rfl,bo (dt _),hv];rw[ak q]
 by_cases h1:j<i
 rw[bo h1,bo ub];rw[ak h1,ak ub];exact(aw (w:=W) (a:=⟨g,j,O⟩) (au W ⟨nb,i,O⟩ _ g (by have:=h.glt;show g≠nb;omega))).trans (h.old j q)
theorem NowAt.done(h:NowAt w W g nb pc T f n i)(u:i=n+1):RowB w W nb n (nextB pc T f):=by
 refine⟨λj q=>?_,h.u,h.lt⟩;rw[h.row.cell (i:=j) ub,bo ub]
theorem RowB.start(h:RowB w W g n f)(pc:Pc)(T:tu):NowAt w (W.alloc (Al (madeCells #[Ah false] (n+1)) 4)) g W.1.size pc T f n 0:=by
 refine⟨(World.rowIs_made W (Ah false) (n+1) 4).congr λj _=>by rw[ak (Nat.not_lt_zero _)],λj q=>?_,h.2.1.alloc h.2.1.size _,uc,h.2.2⟩;rw[bw _ _ _ h.2.2];exact h.1 j q
theorem qzm(w:Ao)(n:Nat):RowB w (w.alloc (Al ((madeCells #[Ah false] (n+1)).setIfInBounds 0 (Ah true)) 4)) w.1.size n (λj=>j==0):=by
 refine⟨λj z=>?_,uj.alloc ui _,uc⟩;have u:((madeCells #[Ah false] (n+1)).setIfInBounds 0 (Ah true)).size=n+1:=by rw[Array.size_setIfInBounds];exact size_madeCells _ _
 have y:=World.rowIs_alloc w ((madeCells #[Ah false] (n+1)).setIfInBounds 0 (Ah true)) 4 (λj=>Ah (j==0)) (λi q=>by
  rw[u]at q;rw[ov]
  by_cases h0:i=0
  subst h0;rw[bo rfl,bo (by rw[size_madeCells _ _];exact q)];rfl;rw[ak (λh=>h0 h.symm)]
  simp[madeCells,q,Nat.mod_one,h0])
 rw[u]at y;exact y.cell (i:=j) ub
end
theorem qgr{f:Nat->Bool}{c:UInt8}{i:Nat}(h:i<s.size):nextB ⟨0,c⟩ s.data.toList f (i+1)=(f i&&(s[i]==c)):=by rw[<-qwq s i h];rfl
theorem qz7(s p e:tq)(hs:s.size<=1000)(hp:p.size<=1000){ps:List Pc}(hcut:zJ e.data.toList p.data.toList=G ps)(w:Ao):
  ua 192 #[Y s,Y p,Y e] w λen w'=>en=Ak (Ah (ko ps s.data.toList λj=>j==0))/\Xb w w':=by
 obtain⟨R,hR⟩:∃r,ko ps s.data.toList (λj=>j==0)=r:=⟨_,rfl⟩;rw[hR];have ON:∀w,(Instr.makeSlice 263 (I J ((s.size:Int)+1)) (I J ((s.size:Int)+1))).run prog w=.ok (C (G ⟨w.1.size,0,O⟩) (s.size+1) (s.size+1)) (w.alloc (Al (madeCells #[Ah false] (s.size+1)) 4)):=λw=>run_make_row' (P:=prog) 263 4 (Ah false) 1 underlying263 qcx rfl J J (s.size+1) ub ub w
 have mC:Hid (R=ko ps s.data.toList (λj=>j==0)):=qd hR.symm;have mG:Hid (zJ e.data.toList (p.data.toList.drop 0)=G ps):=qd hcut;have iD:=World.rowIs_made w (Ah false) (s.size+1) 4;have wA:=iD.cell (i:=0) ub;have rY:=iD.frozen 0;have ST:=qd (qzm w s.size);have A7:(0:Int)<(s.size:Int)+1:=ub;clear hR hcut iD;go_enter func192,ntmps192
 go_wp2
 clear wA rY
 go_loopw [7,8] (λv i wr=>∃(k:Nat) (K:List Pc) (f:Nat->Bool) (g:Nat),k<=p.size/\i=I J k/\v=C (G ⟨g,0,O⟩) (s.size+1) (s.size+1)/\Hid (zJ e.data.toList (p.data.toList.drop k)=G K)/\Hid (R=ko K s.data.toList f)/\Hid (RowB w wr g s.size f)) (λ_ i _=>p.size - (intOf i).toNat)
 exact⟨0,ps,_,_,bt _,rfl,rfl,mG,mC,ST⟩;clear mC mG ST;obtain⟨k,K,f,g,hk,rfl,rfl,HC,HR,z⟩:=hrel;have V2:=(q9 z).2.2
 by_cases A1:k<p.size
 .have bF:p.data.toList[k]?=G p[k]:=by rw[ag (by rw[qu];exact A1),qD p k A1]
  have T9:=um k;have A4:=uo k p.size
  by_cases y:e.data.toList.head?=G p[k]
  .have hl:k+1<p.size:=by
    apply Decidable.byContradiction;intro hn;have A:=q9 HC;rw[qcq bF y (by rw[qu];omega)]at A;cases A
   have fP:p.data.toList[k+1]?=G p[k+1]:=by rw[ag (by rw[qu];exact hl),qD p (k+1) hl]
   obtain⟨H,NQ,J0⟩:∃H,Hid (zJ e.data.toList (p.data.toList.drop (k+2))=G H)/\Hid (R=ko H s.data.toList (nextB ⟨0,p[k+1]⟩ s.data.toList f)):=by
    have A:=q9 HC;rw[qg3 bF y fP]at A;obtain⟨q,h2,h3⟩:=Option.map_eq_some_iff.1 A;exact⟨q,qd h2,qd (by rw[q9 HR,<-h3];rfl)⟩
   have F:0<e.size:=by
    apply Decidable.byContradiction;intro hn;have:e=⟨#[]⟩:=by cases e with|mk d=>simp[ByteArray.size]at hn;simp[hn]
    subst this;simp at y
   have wH:e.data.toList.head?=G e[0]:=by
    have:=ag (l:=e.data.toList) (i:=0) (by rw[qu];exact F);rw[qD e 0 F]at this;rw[oq];exact this
   have F7:((p[k].toNat:Int)==(e[0].toNat:Int))=true:=by rw[ke,ew];rw[wH]at y;injection y with y;exact y.symm
   have hne:=qak F;have UY:=ur e.size;have tG:(k:Int)+1<(p.size:Int):=ub;have UD:(0:Int)<=(k:Int)+1:=ub;clear bF y fP wH HC HR
   go_wp2
   go_cut [9] (λs9 wx=>s9=Ah true/\Hid (RowB w wx g s.size f))
   case first=>
    go_quiet (fail)
    go_wp2
    go_meet
    exact⟨rfl,qd (z.drewN _)⟩
   obtain⟨rfl,z⟩:=hcut;clear F7 hne UY F;have V2:=(q9 z).2.2
   go_wp2
   obtain⟨nb,U⟩:=it wc.1.size;rw[U]
   go_loopw [11] (λi wq=>∃j:Nat,j<=s.size+1/\i=I J j/\Hid (NowAt w wq g nb (⟨0,p[k+1]⟩) s.data.toList f s.size j)) (λi _=>s.size+1 - (intOf i).toNat)
   exact⟨0,bt _,rfl,qd (by have:=(q9 z).start (⟨0,p[k+1]⟩) s.data.toList;rw[U]at this;exact this)⟩;obtain⟨j,hj,rfl,u⟩:=hrel;have Z:w.1.size<=nb:=uu ((q9 z).2.1.size)
   clear U;have nW:=(q9 u).lt;have hgn:=(q9 u).glt;have ng:¬g=nb:=ub;have ng2:¬nb=g:=ub
   by_cases eQ:j<=s.size
   .have rf:=(q9 u).row.frozen j
    have rj:wr.cell? ⟨nb,j,O⟩=G (Ah false):=by have:=(q9 u).row.cell (i:=j) ub;rw[this,ak (Nat.lt_irrefl _)]
    have oj:=(q9 u).old j eQ
    cases j with
    | zero=>
     rw[show((0:Nat):Int)=0 from rfl]
     go_wp2
     go_quiet (fail)
     go_wp2
     go_roundw
     case rel=>exact⟨0+1,ub,by go_num,qd ((u.drewN _).skip (by skip;simp[nextB]))⟩
     (simp[intOf]<;>omega)
    | succ i=>
     rw[show((i+1:Nat):Int)=(i:Int)+1 from rfl];have O8:=um i;have iL:(i:Int)+1<=(s.size:Int):=ub;have fX:=uo i s.size;have UM:(0:Int)<(i:Int)+1:=ub;have CG:i<s.size:=ub;have UL:(i:Int)+1<(s.size:Int)+1:=ub;have UK:(i:Int)<(s.size:Int)+1:=ub;have oi:=(q9 u).old i ub;cases hx:(p[k+1]==s[i])
     .have F7:=(ke _ _).trans hx
      go_wp2
      go_quiet (fail)
      go_wp2
      go_roundw
      case rel=>exact⟨i+1+1,ub,by go_num,qd ((u.drewN _).skip (by rw[qgr CG,show(s[i]==p[k+1])=false by rw[Bool.beq_comm];exact hx];exact iz _))⟩
      (simp[intOf]<;>omega)
     have F7:=(ke _ _).trans hx;obtain⟨fi,D⟩:∃b,f i=b:=⟨_,rfl⟩;rw[D]at oi
     go_wp2
     go_quiet (fail)
     go_wp2
     go_roundw
     case rel=>exact⟨i+1+1,ub,by go_num,qd ((u.drewN _).set Z _ (by rw[qgr CG,D,show(s[i]==p[k+1])=true by rw[Bool.beq_comm];exact hx];exact mn _))⟩
     (simp[intOf]<;>omega)
   have GF:j=s.size+1:=ub;have hjn:¬(j:Int)<=(s.size:Int):=ub
   go_wp2
   go_roundw
   case rel=>exact⟨k+2,H,_,nb,ub,by go_num,rfl,NQ,J0,qd (u.done GF)⟩
   simp[intOf];omega
  obtain⟨H,NQ,J0⟩:∃H,Hid (zJ e.data.toList (p.data.toList.drop (k+1))=G H)/\Hid (R=ko H s.data.toList (nextB (vL p[k]) s.data.toList f)):=by
   have A:=q9 HC;rw[qaw bF y]at A;obtain⟨q,h2,h3⟩:=Option.map_eq_some_iff.1 A;exact⟨q,qd h2,qd (by rw[q9 HR,<-h3];rfl)⟩
  clear HC HR bF
  go_wp2
  go_cut [9] (λs9 wx=>s9=Ah false/\Hid (RowB w wx g s.size f))
  case first=>
   by_cases F:0<e.size
   .have wH:e.data.toList.head?=G e[0]:=by
     have:=ag (l:=e.data.toList) (i:=0) (by rw[qu];exact F);rw[qD e 0 F]at this;rw[oq];exact this
    have F7:((p[k].toNat:Int)==(e[0].toNat:Int))=false:=by rw[ke,bh];intro h;rw[wH,h]at y;exact y rfl
    have hne:=qak F;have UY:=ur e.size;clear y wH
    go_quiet (fail)
    go_wp2
    go_meet
    exact⟨rfl,qd (z.drewN _)⟩
   have UX:e=⟨#[]⟩:=by cases e with|mk d=>simp[ByteArray.size]at F;simp[F]
   subst UX;clear F y
   go_quiet (fail)
   go_wp2
   go_meet
   exact⟨rfl,qd (z.drewN _)⟩
  obtain⟨rfl,z⟩:=hcut;clear y;have V2:=(q9 z).2.2
  go_wp2
  obtain⟨nb,U⟩:=it wc.1.size;rw[U]
  go_loopw [11] (λi wq=>∃j:Nat,j<=s.size+1/\i=I J j/\Hid (NowAt w wq g nb (vL p[k]) s.data.toList f s.size j)) (λi _=>s.size+1 - (intOf i).toNat)
  exact⟨0,bt _,rfl,qd (by have:=(q9 z).start (vL p[k]) s.data.toList;rw[U]at this;exact this)⟩;obtain⟨j,hj,rfl,u⟩:=hrel;have Z:w.1.size<=nb:=uu ((q9 z).2.1.size)
  clear U;have nW:=(q9 u).lt;have hgn:=(q9 u).glt;have ng:¬g=nb:=ub;have ng2:¬nb=g:=ub
  by_cases eQ:j<=s.size
  .have rf:=(q9 u).row.frozen j
   have rj:wr.cell? ⟨nb,j,O⟩=G (Ah false):=by have:=(q9 u).row.cell (i:=j) ub;rw[this,ak (Nat.lt_irrefl _)]
   have oj:=(q9 u).old j eQ;cases h37:((p[k].toNat:Int)==37)
   .cases h95:((p[k].toNat:Int)==95)
    .skip
     cases j with
     | zero=>
      rw[show((0:Nat):Int)=0 from rfl]
      go_wp2
      go_quiet (fail)
      go_wp2
      go_roundw
      case rel=>exact⟨0+1,ub,by go_num,qd ((u.drewN _).skip (by have B:vL p[k]=⟨0,p[k]⟩:=(by simp[vL,h37,h95]);rw[B];simp[nextB]))⟩
      (simp[intOf]<;>omega)
     | succ i=>
      rw[show((i+1:Nat):Int)=(i:Int)+1 from rfl];have O8:=um i;have iL:(i:Int)+1<=(s.size:Int):=ub;have fX:=uo i s.size;have UM:(0:Int)<(i:Int)+1:=ub;have CG:i<s.size:=ub;have UL:(i:Int)+1<(s.size:Int)+1:=ub;have UK:(i:Int)<(s.size:Int)+1:=ub;have oi:=(q9 u).old i ub;cases hx:(p[k]==s[i])
      .have F7:=(ke _ _).trans hx
       go_wp2
       go_quiet (fail)
       go_wp2
       go_roundw
       case rel=>exact⟨i+1+1,ub,by go_num,qd ((u.drewN _).skip (by have B:vL p[k]=⟨0,p[k]⟩:=(by simp[vL,h37,h95]);rw[B];rw[qgr CG,show(s[i]==p[k])=false by rw[Bool.beq_comm];exact hx];exact iz _))⟩
       (simp[intOf]<;>omega)
      have F7:=(ke _ _).trans hx;obtain⟨fi,D⟩:∃b,f i=b:=⟨_,rfl⟩;rw[D]at oi
      go_wp2
      go_quiet (fail)
      go_wp2
      go_roundw
      case rel=>exact⟨i+1+1,ub,by go_num,qd ((u.drewN _).set Z _ (by have B:vL p[k]=⟨0,p[k]⟩:=(by simp[vL,h37,h95]);rw[B];rw[qgr CG,D,show(s[i]==p[k])=true by rw[Bool.beq_comm];exact hx];exact mn _))⟩
      (simp[intOf]<;>omega)
    skip
    cases j with
    | zero=>
     rw[show((0:Nat):Int)=0 from rfl]
     go_wp2
     go_quiet (fail)
     go_wp2
     go_roundw
     case rel=>exact⟨0+1,ub,by go_num,qd ((u.drewN _).skip (by have B:vL p[k]=⟨1,0⟩:=(by simp[vL,h37,h95]);rw[B];simp[nextB]))⟩
     (simp[intOf]<;>omega)
    | succ i=>
     rw[show((i+1:Nat):Int)=(i:Int)+1 from rfl];have O8:=um i;have iL:(i:Int)+1<=(s.size:Int):=ub;have fX:=uo i s.size;have UM:(0:Int)<(i:Int)+1:=ub;have CG:i<s.size:=ub;have UL:(i:Int)+1<(s.size:Int)+1:=ub;have UK:(i:Int)<(s.size:Int)+1:=ub;have oi:=(q9 u).old i ub;obtain⟨fi,D⟩:∃b,f i=b:=⟨_,rfl⟩;rw[D]at oi
     go_wp2
     go_quiet (fail)
     go_wp2
     go_roundw
     case rel=>exact⟨i+1+1,ub,by go_num,qd ((u.drewN _).set Z _ (by have B:vL p[k]=⟨1,0⟩:=(by simp[vL,h37,h95]);rw[B];simp[nextB,D]))⟩
     (simp[intOf]<;>omega)
   cases hfj:f j
   .rw[hfj]at oj
    cases j with
    | zero=>
     rw[show((0:Nat):Int)=0 from rfl]
     go_wp2
     go_roundw
     case rel=>exact⟨0+1,ub,by go_num,qd ((u).set Z _ (by have B:vL p[k]=⟨2,0⟩:=(by simp[vL,h37]);rw[B];simp[nextB,hfj]))⟩
     (simp[intOf]<;>omega)
    | succ i=>
     rw[show((i+1:Nat):Int)=(i:Int)+1 from rfl];have O8:=um i;have iL:(i:Int)+1<=(s.size:Int):=ub;have fX:=uo i s.size;have UM:(0:Int)<(i:Int)+1:=ub;have CG:i<s.size:=ub;have UL:(i:Int)+1<(s.size:Int)+1:=ub;have UK:(i:Int)<(s.size:Int)+1:=ub;have oi:=(q9 u).old i ub;obtain⟨fi,D⟩:∃b,nextB (vL p[k]) s.data.toList f i=b:=⟨_,rfl⟩;have ni:wr.cell? ⟨nb,i,O⟩=G (Ah fi):=by have:=(q9 u).row.cell (i:=i) ub;rw[this,bo (dt _),D]
     have FB:=qd D;clear D
     go_wp2
     go_roundw
     case rel=>exact⟨i+1+1,ub,by go_num,qd ((u).set Z _ (by have q:=q9 FB;rw[show vL p[k]=⟨2,0⟩ by simp[vL,h37]]at q |-;simp[nextB,hfj,q]))⟩
     (simp[intOf]<;>omega)
   rw[hfj]at oj
   go_wp2
   go_roundw
   case rel=>exact⟨j+1,ub,by go_num,qd ((u).set Z _ (by have B:vL p[k]=⟨2,0⟩:=(by simp[vL,h37]);rw[B];cases j<;>simp[nextB,hfj]))⟩
   (simp[intOf]<;>omega)
  have GF:j=s.size+1:=ub;have hjn:¬(j:Int)<=(s.size:Int):=ub
  go_wp2
  go_roundw
  case rel=>exact⟨k+1,H,_,nb,ub,by go_num,rfl,NQ,J0,qd (u.done GF)⟩
  simp[intOf];omega
 have aC:k=p.size:=ub;have hl:=(q9 z).1 s.size ui
 have hps:K=[]:=by
  have A:=q9 HC;rw[aC,qg2 (by rw[qu];omega)]at A;injection A with A;exact A.symm
 have HRf:Hid (R=f s.size):=qd (by rw[q9 HR,hps,ko,qu]);have nX:=uq k p.size;obtain⟨r,hr⟩:=it (f s.size);rw[hr]at hl HRf;clear aC hps hr
 go_wp2
 go_ret;exact⟨by rw[q9 HRf];rfl,z.2.1⟩
def kG(x:V)(ts:List (List UInt8))(k:Nat):V:=(ts.take k).foldl (λf t=>orV f (eqV x (tV t))) (bV false)
theorem qm5{t:tu}(h:ts[k]?=G t):kG x ts (k+1)=orV (kG x ts k) (eqV x (tV t)):=by
 unfold kG;rw[dn,h];simp
theorem qrv:kG x ts ts.length=pT x ts:=by unfold kG pT;rw[im]
structure VarAt(w W:Ao)(vb:Nat)(v:V):Prop where
 c0:W.cell? ⟨vb,0,O⟩=G (I J v.A)
 c1:W.cell? ⟨vb,1,O⟩=G (I J v.K)
 c2:W.cell? ⟨vb,2,O⟩=G (Y (BS v.V))
 fz:∀i,W.frozen? ⟨vb,i,O⟩=false
 lt:vb<W.1.size
 u:Below w.1.size w W
theorem VarAt.below{W':Ao}(h:VarAt w W vb v)(j:Xb W W'):VarAt w W' vb v:=
 ⟨((qk j).1 _ _ h.lt).trans h.c0,((qk j).1 _ _ h.lt).trans h.c1,((qk j).1 _ _ h.lt).trans h.c2,λi=>((qk j).2 _ i h.lt).trans (h.fz i),aq h.lt j.size,qg h.u j⟩
theorem VarAt.new{w W:Ao}(j:Xb w W)(v:V):VarAt w (W.alloc (Al #[I J v.A,I J v.K,Y (BS v.V)] 57)) W.1.size v:=
 ⟨uc,uc,uc,λi=>uc,uc,j.alloc j.size _⟩
theorem VarAt.put(h:VarAt w W vb v)(j:w.1.size<=vb)(u:V):VarAt w (((W.setCell ⟨vb,0,O⟩ (I J u.A)).setCell ⟨vb,1,O⟩ (I J u.K)).setCell ⟨vb,2,O⟩ (Y (BS u.V))) vb u:=by
 refine⟨?_, ?_, ?_,λi=>?_,by simpa using h.lt,((h.u.setCell j _).setCell j _).setCell j _⟩
 .simp[go_sem,h.c0]
 .simp[go_sem,h.c1]
 .simp[go_sem,h.c2]
 simp[go_sem,h.fz i]
theorem VarAt.other{j:Nat}(h:VarAt w W vb v)(q:vb≠j)(u:w.1.size<=j)(a c d:Ap):VarAt w (((W.setCell ⟨j,0,O⟩ a).setCell ⟨j,1,O⟩ c).setCell ⟨j,2,O⟩ d) vb v:=by
 have e:(((W.setCell ⟨j,0,O⟩ a).setCell ⟨j,1,O⟩ c).setCell ⟨j,2,O⟩ d).1[vb]?=W.1[vb]?:=by
  rw[au _ ⟨j,2,O⟩ _ vb q,au _ ⟨j,1,O⟩ _ vb q,au _ ⟨j,0,O⟩ _ vb q]
 exact⟨(aw (w:=W) (a:=⟨vb,0,O⟩) e).trans h.c0,(aw (w:=W) (a:=⟨vb,1,O⟩) e).trans h.c1,(aw (w:=W) (a:=⟨vb,2,O⟩) e).trans h.c2,λi=>(cn (w:=W) (a:=⟨vb,i,O⟩) e).trans (h.fz i),by simpa using h.lt,((h.u.setCell u _).setCell u _).setCell u _⟩
section
variable {w:Ao} {a N c:Int} {iv ev:Ap} {S E:tq} {neg:Bool}
theorem va1{cap H:Nat}{Z:Option Addr}(hn:0<n)(G0:b<w.1.size)(x0:Xc w b 0 (I J x.A))(x1:Xc w b 1 (I J x.K))(x2:Xc w b 2 (Y (BS x.V)))(lG:ts.length<=1000)
  (hl:∀k t,ts[k]?=G t->∃lb,Z=G ⟨lb,0,O⟩/\lb<w.1.size/\Xc w lb k (Y (BS t))) :
  ut 98 #[Ai #[Y ⟨#[73,78]⟩,I J a,iv,Y S,Y E,C Z ts.length H,I J N,Ah neg,I J c],C (G ⟨b,0,O⟩) n cap,ev] w (vV (pT x ts)):=by
 obtain⟨u,mS⟩:∃k,ts.length=k:=⟨_,rfl⟩;have dI:=qd mS;rw[mS]at lG |-;have HL:=qd hl;have RT:=qd (λw=>vQ false w);obtain⟨R,hR⟩:∃r,pT x ts=r:=⟨_,rfl⟩;have HR:Hid (kG x ts u=R):=qd (by rw[<-q9 dI,qrv,hR]);rw[hR];go_enter func98,ntmps98
 go_wp2_with(go_at_call 69;refine be (RT _) λq A0=>?_;have U:=qd (qg (qK w _ _) A0);obtain⟨C9,G8⟩:=qk A0;have B8:w.1.size+2<=q.1.size:=(by have:=A0.size;simp at this;omega);have m5:Xc q w.1.size 5 (C Z u H):=(C9 _ 5 (by simp;try omega)).trans uc;have r0:Xc q (w.1.size+1) 0 (I J 0):=(C9 _ 0 uc).trans uc;have r1:Xc q (w.1.size+1) 1 (I J 0):=(C9 _ 1 uc).trans uc;have r2:Xc q (w.1.size+1) 2 (Y ⟨#[]⟩):=(C9 _ 2 uc).trans uc;have rz:Xf q (w.1.size+1):=(λi=>(G8 _ i uc).trans uc);simp only[vV])
 obtain⟨vb,AV⟩:∃v,q.1.size=v:=⟨_,rfl⟩;have V0:Hid (VarAt q (q.alloc (Al #[I J (bV false).A,I J (bV false).K,Y (BS (bV false).V)] 57)) q.1.size (kG x ts 0)):=qd (VarAt.new uj _);rw[AV]at V0;rw[AV]
 go_loopw [8] (λi wr=>∃k:Nat,k<=u/\i=I J k/\Hid (VarAt q wr vb (kG x ts k))) (λi _=>u - (intOf i).toNat)
 exact⟨0,bt _,rfl,V0⟩;obtain⟨k,hk,rfl,j⟩:=hrel;have HVB:=qd AV;have sU:w.1.size+2<=vb:=ub;obtain⟨y,oK⟩:=qk j.u;have fM:=(q9 j).lt;have e5:Xc wr w.1.size 5 (C Z u H):=(y _ 5 ub).trans m5
 by_cases A1:k<u
 .obtain⟨t,ht⟩:∃t,ts[k]?=G t:=⟨_,ag (uu (q9 dI))⟩
  obtain⟨lb,rfl,O0,oD⟩:=q9 HL k t ht;have HK:Hid (kG x ts (k+1)=orV (kG x ts k) (eqV x (tV t))):=qd (qm5 ht);have el:Xc wr lb k (Y (BS t)):=(y _ k ub).trans ((U.cell (p:=⟨lb,k,O⟩) O0).trans oD);have e0:Xc wr b 0 (I J x.A):=(y _ 0 ub).trans ((U.cell (p:=⟨b,0,O⟩) G0).trans x0);have e1:Xc wr b 1 (I J x.K):=(y _ 1 ub).trans ((U.cell (p:=⟨b,1,O⟩) G0).trans x1);have e2:Xc wr b 2 (Y (BS x.V)):=(y _ 2 ub).trans ((U.cell (p:=⟨b,2,O⟩) G0).trans x2);have RE:=qd (λw=>qb7 x (tV t) w);simp only[vV,tV]at RE;have T9:=um k;have A4:=uo k u;have q1:b<wr.1.size:=ub;have q2:b<wr.1.size+1:=ub;have q3:lb<wr.1.size:=ub;have q4:lb<wr.1.size+1:=ub;have q5:w.1.size<wr.1.size:=ub;have q6:w.1.size<wr.1.size+1:=ub;have n1:¬b=wr.1.size:=ub;have n2:¬lb=wr.1.size:=ub;have n3:¬w.1.size=wr.1.size:=ub;have n4:¬wr.1.size=b:=ub;have n5:¬wr.1.size=lb:=ub;have n6:¬wr.1.size=w.1.size:=ub;have mN:vb<wr.1.size+1:=ub;obtain⟨av,B⟩:∃v,kG x ts k=v:=⟨_,rfl⟩;rw[B]at j HK;obtain⟨WO,oM⟩:∃v,eqV x (tV t)=v:=⟨_,rfl⟩;have oL:eqV x { A:=3,K:=0,V:=t }=WO:=oM;rw[oM]at HK;rw[oL]at RE;clear B oM oL ht oD y oK m5 x0 x1 x2
  go_wp2
  go_cut [9] (λs9 wx=>∃qb,s9=Ag (G ⟨qb,0,O⟩)/\Hid (VarAt q wx vb av)/\Hid (VarAt q wx qb WO))
  case first=>
   go_region_held3 (λW=>Xc W b 0 (I J x.A)/\Xc W b 1 (I J x.K)/\Xc W b 2 (Y (BS x.V))/\Xc W w.1.size 5 (C (G ⟨lb,0,O⟩) u H)/\Xc W lb k (Y (BS t))) (first|with_reducible assumption|go_keep) ((go_at_call 138;refine be (RE _) λw2 D=>?_;obtain⟨P,L8⟩:=qk D;have D4:wr.1.size<=w2.1.size:=(by have:=D.size;simp at this;omega);have sJ:(Xc w2 b 0 (I J x.A)/\Xc w2 b 1 (I J x.K)/\Xc w2 b 2 (Y (BS x.V))/\Xc w2 w.1.size 5 (C (G ⟨lb,0,O⟩) u H)/\Xc w2 lb k (Y (BS t))):=(by refine⟨(P _ _ ?_).trans ?_,(P _ _ ?_).trans ?_,(P _ _ ?_).trans ?_,(P _ _ ?_).trans ?_,(P _ _ ?_).trans ?_⟩<;>simp[*]);  have p1:¬b=w2.1.size:=ub;have p2:¬lb=w2.1.size:=ub;have p3:¬w.1.size=w2.1.size:=ub))
   all_goals
    go_wp2
    go_meet
    first
     | exact⟨_,rfl,qd ((j.below (qg uj.drew D)).below (uj.alloc ui _)),qd (VarAt.new (qg j.u (qg uj.drew D)) _)⟩
     | exact⟨_,rfl,qd ((j.below (qg (uj.alloc ui _).drew D)).other ub j.u.size _ _ _),qd (((VarAt.new j.u nV).below (qg uj.drew D)).put j.u.size _)⟩
  obtain⟨qb,rfl,F,HQ⟩:=hcut;have RO:=qd (λw=>qzk av WO w);simp only[vV]at RO;have v0:=(q9 F).c0;have v1:=(q9 F).c1;have v2:=(q9 F).c2;have u0:=(q9 HQ).c0;have u1:=(q9 HQ).c1;have u2:=(q9 HQ).c2;have vl2:=(q9 F).lt;have ql2:=(q9 HQ).lt;clear j
  go_wp2_with(go_at_call 137;refine be (RO _) λw3 D5=>?_;have z:=qd (F.below D5);have y0:=(q9 z).c0;have y1:=(q9 z).c1;have y2:=(q9 z).c2;have yz:=(q9 z).fz;have yl:=(q9 z).lt;clear D5)
  go_roundw
  case rel=>exact⟨k+1,ub,by go_num,qd (by rw[q9 HK];exact z.put (uu (q9 HVB)) _)⟩
  simp[intOf];omega
 have aC:k=u:=ub;have nX:=uq k u;obtain⟨av,B⟩:∃v,kG x ts k=v:=⟨_,rfl⟩;have fC:Hid (R=av):=qd (by rw[<-q9 HR,<-B,aC]);rw[B]at j;have v0:=(q9 j).c0;have v1:=(q9 j).c1;have v2:=(q9 j).c2;have t0:=(y (w.1.size+1) 0 ub).trans r0;have t1:=(y (w.1.size+1) 1 ub).trans r1;have t2:=(y (w.1.size+1) 2 ub).trans r2;have tz:Xf wr (w.1.size+1):=λi=>(oK (w.1.size+1) i ub).trans (rz i)
 have tl:w.1.size+1<wr.1.size:=ub;have nv:¬vb=w.1.size+1:=ub;have fI:=qd (qg U j.u);clear y oK B aC r0 r1 r2 rz m5
 go_wp2
 refine bj (by simp[go_sem,t0,t1,t2]<;>rfl) rfl ⟨?_, ?_⟩;rw[q9 fC];rfl;exact(((fI.setCell uc _).setCell uc _).setCell uc _)
end
end Go.Proofs.YtdmmmgodfceilaaGreatDoor
