/- like -/
import Derived.Test.YtfkcaldjphakpaaGreatDoorM14
import Derived.Defers
import Derived.Recover
import Derived.Laws.Pointers
set_option maxHeartbeats 8000000
set_option maxRecDepth 100000
namespace Go.Proofs.YtfkcaldjphakpaaGreatDoor
open Go.RowKit Go.Proofs.Tryz
variable{s:mu}{ps:List Pr}{L:List Tk}{str:mv}{fp lo rb:Nat}{p:Pay}{st st':St}{f:St->Res}{ft:Tk}{ev:Value}{a w w':World}
section
def vg(s:ByteArray)(l:Ast)(st:St):Res:=
 if(qg s st).tk.kind=4 then
  (if(qg s (qg s st)).tk.kind=13 then
   (match kY s (qg s st).tk (qg s st).place (qg s (qg s (qg s st))) with
    | .ok str st'=>.ok (.un ⟨22,st.place,0,(qg s st).tk.str,str,[]⟩ l) st'
    | .err pl=>.err 2 pl)
  else .ok (.un ⟨22,st.place,0,(qg s st).tk.str,[],[]⟩ l) (qg s (qg s st)))
 else .err 2 (qg s st).place
theorem qbe(h:kY s ft fp st=.ok str st'):st.tk.kind=4/\st'=qg s st:=by
 unfold kY at h
 split at h
 ·rename_i b
  split at h
  ·split at h
   ·injection h with _ c;exact⟨b,c.symm⟩
   ·cases h
  ·cases h
 ·cases h
theorem qqi(rb:Nat)(s:mu)(op:Nat)(hs:s.size<=200):qga 269 rb s op 12 (vg s):=by
 intro w st l lv h ho K P;have H:=qd h;have A0:=h.lt;have V8:=h.fine.le (by rw[P];decide);have lV:=qd P;obtain⟨lb,rfl⟩:=K.ptr;have HL:=qd K;have Y:(qg s st).tk.str.length<=200:=bs (qa6 s st) hs;obtain⟨R,o⟩:∃R,vg s l st=R:=⟨_,rfl⟩;rw[o];unfold vg at o;obtain⟨j,z⟩:∃x,qg s st=x:=⟨_,rfl⟩;rw[z]at o Y V8;have P0:j.op=op:=z ▸ ho
 have HR:=qd o;have S1:=qd z;clear h K P o z;go_enter func269,ntmps269
 go_wp2_with(first|(go_at_call_of 56 (Value.int IntKind.i64 12);refine(qfv H lV).mono ?_;rw[q9 S1];rintro e u⟨rfl,A8,S⟩;have B9:=S.size;have G:¬u.heap.size=rb:=mw;have Q7:=qd (A8.allocd (.cells (tkC st) 91));have c:=qd (S.alloc (.cells (tkC st) 91));clear A8 S;simp only[tkV])|(go_at_call_of 56 (Value.int IntKind.i64 4);refine(yj Q7 4).mono ?_;rintro e t⟨C,⟨y,rfl,A9⟩|⟨y,rfl⟩⟩;all_goals(obtain⟨q2,D8⟩:=gG C G;have U:¬t.heap.size=rb:=mw;have N:=qd y;clear y);all_goals first|(have F:∀i,(t.alloc (.cells (tkC j) 91)).cell? ⟨u.heap.size,i,none⟩=(tkC st)[i]?:=(λi=>(bt _ _ _ (by first|omega|(simp;omega))).trans (q2 i));replace c:=qd ((c.trans C).alloc (.cells (tkC j) 91));have Z:=qd (A9.allocd (.cells (tkC j) 91));clear A9 C;simp only[tkV])|(replace c:=qd (c.trans C);simp only[qU]))|(go_at_call 267;refine(qma Z 13).mono ?_;rintro e w3⟨b,VI,rfl,B,D9,m⟩;obtain⟨r,S4⟩:=gG B U;have q3:∀i,w3.cell? ⟨u.heap.size,i,none⟩=(tkC st)[i]?:=(λi=>((jG B).1 _ i my G).trans (F i));replace c:=qd (c.trans B);have k:=qd D9;have O:=qd m;clear D9 B m)|(go_at_call 302;refine(qq2 rb s j.tk j.place Y _ VI k).mono ?_;rintro e D W;obtain⟨A,⟨str,J,rfl,L5⟩|⟨pl,J,rfl⟩⟩:=W.split k (λ_ _ h=>(qbe h).2);all_goals(have VV:t.heap.size<D.heap.size:=(by have:=A.size;omega);obtain⟨I,kf⟩:=jG A;have u3:Xc D t.heap.size 3 (.string (BS j.tk.str)):=(I _ 3 S4 U).trans (r 3);have u1:Xc D u.heap.size 1 (.int .i64 st.place):=(I _ 1 mw G).trans (q3 1);replace c:=qd (c.trans A);have M:=qd J;clear A I kf J W);all_goals first|(have n:=qd L5;clear L5)|simp only[qU]))
 all_goals
  have E:=q9 HR
  first
  | (rw[aj (q9 N)]at E;subst E;exact⟨rfl,q9 c,rfl⟩)
  | (
   rw[bh (q9 N)]at E;have y:=(q9 Q7).fine.le (by rw[q9 N];decide);have X:=(q9 Z).fine;obtain⟨rfl,m,q⟩|⟨rfl,m,q⟩:=q9 O
   ·rw[bh m,←q]at E
    have:=X.le (by rw[m];decide)
    first
    | (
     have _q:=M;rw[q9 M]at E;subst E
     first
     | exact⟨rfl,q9 c,rfl⟩
     | (
      go_ret;have h5:=(q9 k).fine.le (by rw[(qbe (q9 M)).1];decide)
      exact⟨(c.alloc _).alloc _,_,rfl,IsNode.texted (HL.kept c) n.lt (.inl ⟨rfl,rfl⟩) 22 st.place _ _,(n.at'.allocd _ n.lt).allocd _ (by have:=(q9 n).lt;simp;omega),n.fine,by rw[q];exact P0,by rw[q]at h5 ⊢;omega⟩))
    | contradiction
   ·rw[aj m]at E
    subst E
    first
    | contradiction
    | (
     go_ret;have F5:=IsNode.texted (ts:=[]) (HL.kept c) k.lt (.inl ⟨rfl,rfl⟩) 22 st.place j.tk.str []
     exact⟨(c.alloc _).alloc _,_,rfl,by simpa [BS]using F5,by rw[←q];exact(k.at'.allocd _ k.lt).allocd _ (by have:=(q9 k).lt;simp;omega),X,P0,mw⟩))
end
section
theorem qrw(rb:Nat)(s:mu)(op:Nat)(f:St->Res)(c b:Ast->St->Res)(j:zh 241 rb s op f)(n:qga 268 rb s op 11 c)(m:qga 269 rb s op 12 b):
  zh 198 rb s op (jP s f c b):=by
 intro w st h k
 cases D4:f st with
 | err en pl=>
  have i:jP s f c b st=.err en pl:=by unfold jP;rw[D4]
  rw[i];obtain⟨c0,B,A,z,c4,y,x,fz⟩:=h.at';have H:=qd h;have r:=qd j;have q:=qd D4;clear h j n m D4 i;cases F7:(st.tk.kind==2)
  all_goals
   go_enter func198,ntmps198
   go_wp2_with(go_at_call 241;refine(r _ st H k).mono ?_;rintro e u⟨t,o⟩;rw[q9 q]at o;subst o;simp only[qU])
   exact⟨rfl,t,rfl⟩
 | ok l A6=>
  have i:jP s f c b st=jO s f c b (pM st l) l A6:=by unfold jP;rw[D4]
  rw[i];exact qxt ⟨j,n,m,h,k,D4⟩
end
section
structure L3 where
 S:St->Res
 D:St->Res
 E:St->Res
def vjy(s:ByteArray)(S:St->Res):St->Res:=jH s S [24,25]
def vmd(s:ByteArray)(S:St->Res):St->Res:=jH s (vjy s S) [22,23]
def veo(s:ByteArray)(S:St->Res):St->Res:=jP s (vmd s S) (xj s) (vg s)
def qzs(s:ByteArray)(D:St->Res):St->Res:=jH s (jH s D [5]) [6]
def up3(s:ByteArray)(L:L3):L3:=⟨vO s L.S L.E,jq s L.D (veo s (vO s L.S L.E)),qzs s (jq s L.D (veo s (vO s L.S L.E)))⟩
def lvl(s:ByteArray):Nat->L3
 | 0=>up3 s ⟨λ_=>.err 0 0,λ_=>.err 0 0,λ_=>.err 0 0⟩
 | d+1=>up3 s (lvl s d)
structure Reads3(rb:Nat)(s:ByteArray)(op:Nat)(L:L3):Prop where
 S:zh 301 rb s op L.S
 D:zh 147 rb s op L.D
 E:zh 55 rb s op L.E
theorem qik(rb:Nat)(s:mu)(b:s.size<=200)(op:Nat)(i:op<=12)(L:L3)(h:op<12->Reads3 rb s (op+1) L):Reads3 rb s op (up3 s L):=by
 have c:zh 301 rb s op (vO s L.S L.E):=qia rb s op i L.S L.E (λk=>(h k).S) (λk=>(h k).E);have m:=qf6 rb s op _ c;have j:=qxk rb s op _ m;have l:=qrw rb s op _ _ _ j (vaj rb s op b) (qqi rb s op b);have e:=qgl rb s op i L.D _ (λk=>(h k).D) l;exact⟨c,e,qgm rb s op _ (qpk rb s op _ e)⟩
theorem qun(rb:Nat)(s:mu)(b:s.size<=200):∀(d op:Nat),op+d=12->Reads3 rb s op (lvl s d):=by
 intro d
 induction d with
 | zero=>intro op h;exact qik rb s b op mw _ (λk=>mw)
 | succ d ih=>intro op h;exact qik rb s b op mw _ (λ_=>ih (op+1) mw)
structure QC(s:ByteArray)(Q:Ast->Prop)(T:Tk->Prop):Prop where
 len:s.size<=200
 tk:∀st,T (qg s st).tk
 lf:∀st,T st.tk->(st.tk.kind=2->Q (ka 0 st 0 st.tk.str))/\Q (ka 1 st st.tk.num [])/\Q (ka 2 st 0 st.tk.str)/\Q (ka 3 st 0 [])/\Q (ka 4 st 0 [])
 un:∀op pl x,op=5\/op=14\/op=15\/op=23->Q x->Q (.un ⟨op,pl,0,[],[],[]⟩ x)
 bin:∀st x y,Q x->Q y->Q (vfc st x y)
 tri:∀pl x y z,Q x->Q y->Q z->Q (.tri ⟨20,pl,0,[],[],[]⟩ x y z)
 am:∀pl ts x,ts.length<=1000->(∀t∈ts,∃k,T k/\t=k.str)->Q x->Q (.un ⟨21,pl,0,[],[],ts⟩ x)
 lk:∀pl k e x,T k->(e=[]\/e.length=1/\(zi e k.str).isSome=true)->Q x->Q (.un ⟨22,pl,0,k.str,e,[]⟩ x)
section
variable {s:mu} {Q:Ast->Prop} {T:Tk->Prop} {f g:St->Res} {ks:List Int}
def GQ(Q:Ast->Prop)(T:Tk->Prop)(f:St->Res):Prop:=∀st t st',T st.tk->f st=.ok t st'->Q t/\T st'.tk
def GQT(Q:Ast->Prop)(T:Tk->Prop)(g:Ast->St->Res):Prop:=∀l st t st',Q l->T st.tk->g l st=.ok t st'->Q t/\T st'.tk
theorem GQ.join(h:GQ Q T f)(c:QC s Q T):∀st l t st',Q l->jy s f st l=.ok t st'->Q t/\T st'.tk:=by
 intro st l t st' i b;unfold jy at b
 split at b<;>cases b
 rename_i e;have:=h _ _ _ (c.tk st) e;exact⟨c.bin _ _ _ i this.1,this.2⟩
theorem GQ.loop(h:GQ Q T f)(c:QC s Q T):∀n,GQT Q T (j9 s f ks n):=by
 intro n
 induction n with
 | zero=>intro l st t st' e i b;cases b;exact⟨e,i⟩
 | succ n ih=>
  intro l st t st' e i b;rw[j9]at b
  split at b
  ·split at b
   ·rename_i j;have:=h.join c _ _ _ _ e j;exact ih _ _ _ _ this.1 this.2 b
   ·cases b
  ·cases b;exact⟨e,i⟩
theorem GQ.row(h:GQ Q T f)(c:QC s Q T):GQ Q T (jH s f ks):=by
 intro st t st' e b;unfold jH at b
 split at b
 ·rename_i i;have:=h _ _ _ e i;exact h.loop c _ _ _ _ _ this.1 this.2 b
 ·cases b
theorem GQ.sign(h:GQ Q T f)(c:QC s Q T)(o:Int)(i:o=5\/o=14\/o=15\/o=23):GQ Q T (vu s f o):=by
 intro st t st' _ b;unfold vu at b
 split at b
 ·cases b
 ·split at b<;>cases b
  rename_i e;have:=h (ko s st) _ _ (c.tk st) e;exact⟨c.un _ _ _ i this.1,this.2⟩
theorem GQ.group(h:GQ Q T f)(c:QC s Q T):GQ Q T (vi s f):=by
 intro st t st' _ b;unfold vi at b
 split at b
 ·cases b
 ·split at b
  ·rename_i e;split at b<;>cases b
   exact⟨(h (ko s st) _ _ (c.tk st) e).1,c.tk _⟩
  ·cases b
theorem GQ.signed(i:GQ Q T f)(o:GQ Q T g)(c:QC s Q T):GQ Q T (vO s f g):=by
 intro st t st' e b;obtain⟨n,m,l,k,j⟩:=c.lf st e;unfold vO at b
 split at b
 ·exact i.sign c 14 mx _ _ _ e b
 split at b
 ·exact i.sign c 15 mx _ _ _ e b
 split at b
 ·exact o.group c _ _ _ e b
 split at b
 ·rename_i q;cases b;exact⟨n q,c.tk st⟩
 repeat' split at b
 all_goals cases b
 ·exact⟨m,c.tk st⟩
 ·exact⟨l,c.tk st⟩
 ·exact⟨k,c.tk st⟩
 ·exact⟨j,c.tk st⟩
theorem qu3(c:QC s Q T):GQT Q T (jd s):=by
 intro l st t st' i _ b;have e:=c.un 23 st.place l mx i;unfold jd at b
 repeat' split at b
 all_goals cases b
 ·exact⟨c.un _ _ _ mx e,c.tk _⟩
 ·exact⟨e,c.tk _⟩
theorem qu2(c:QC s Q T){l:Ast}{j:Nat}(m:Q l):∀n ts st t st',ts.length+n<=1000->(∀t∈ts,∃k,T k/\t=k.str)->zn s l j n ts st=.ok t st'->Q t/\T st'.tk:=by
 intro n
 induction n with
 | zero=>intro ts st t st' _ _ b;cases b
 | succ n ih=>
  intro ts st t st' o i b;rw[zn]at b
  split at b
  ·split at b
   ·refine ih _ _ _ _ my (λx e=>?_) b
    rcases cr.1 e with e|e
    ·exact i x e
    ·exact⟨_,c.tk st,cp.1 e⟩
   ·cases b
  ·split at b<;>cases b
   exact⟨c.am _ _ _ mw i m,c.tk _⟩
theorem vkw(c:QC s Q T):GQT Q T (xj s):=by
 intro l st t st' i _ b;have:=c.len;unfold xj at b
 split at b
 ·split at b
  ·exact qu2 c i _ _ _ _ _ my (λx e=>⟨_,c.tk _,cp.1 e⟩) b
  ·cases b
 ·cases b
theorem qq1(h:kY s ft fp st=.ok str st'):str.length=1/\(zi str ft.str).isSome=true:=by
 unfold kY at h
 repeat' split at h
 all_goals cases h
 exact⟨by assumption,by assumption⟩
theorem vg3(c:QC s Q T):GQT Q T (vg s):=by
 intro l st t st' e _ b;unfold vg at b
 split at b
 ·split at b
  ·split at b<;>cases b
   rename_i h;rw[(qbe h).2];exact⟨c.lk _ _ _ _ (c.tk st) (.inr (qq1 h)) e,c.tk _⟩
  ·cases b;exact⟨c.lk _ _ _ _ (c.tk st) (.inl rfl) e,c.tk _⟩
 ·cases b
theorem GQ.between(h:GQ Q T f)(c:QC s Q T):GQT Q T (qQ s f):=by
 intro l st t st' i _ e;unfold qQ at e
 split at e
 ·split at e
  ·rename_i k;split at e
   ·split at e<;>cases e
    rename_i j;have b:=h _ _ _ (c.tk _) j;exact⟨c.tri _ _ _ _ i (h _ _ _ (c.tk _) k).1 b.1,b.2⟩
   ·cases e
  ·cases e
 ·cases e
theorem GQ.keyword(h:GQ Q T f)(c:QC s Q T)(bare:Bool):GQT Q T (vh s f (xj s) (vg s) bare):=by
 intro l st t st' i e b;unfold vh at b
 split at b
 ·exact vkw c _ _ _ _ i e b
 split at b
 ·exact vg3 c _ _ _ _ i e b
 ·exact h.between c _ _ _ _ i e b
theorem GQ.test(h:GQ Q T f)(c:QC s Q T):GQ Q T (jP s f (xj s) (vg s)):=by
 intro st t st' j b;unfold jP at b
 split at b
 ·rename_i k
  obtain⟨e,i⟩:=h _ _ _ j k;unfold jO at b
  split at b
  ·exact h.join c _ _ _ _ e b
  split at b
  ·split at b
   ·exact qu3 c _ _ _ _ e i b
   ·cases b;exact⟨e,i⟩
  split at b
  ·split at b<;>cases b
   rename_i l;have:=h.keyword c _ _ _ _ _ e (c.tk _) l;exact⟨c.un _ _ _ mx this.1,this.2⟩
  split at b
  ·exact h.keyword c _ _ _ _ _ e i b
  ·cases b;exact⟨e,i⟩
 ·cases b
theorem GQ.denied(j:GQ Q T f)(i:GQ Q T g)(c:QC s Q T):GQ Q T (jq s f g):=by
 intro st t st' e b;unfold jq at b
 split at b
 ·exact j.sign c 5 mx _ _ _ e b
 ·exact i _ _ _ e b
theorem ve1(c:QC s Q T):∀d,GQ Q T (lvl s d).S/\GQ Q T (lvl s d).D/\GQ Q T (lvl s d).E:=by
 have b:∀L:L3,GQ Q T L.S/\GQ Q T L.D/\GQ Q T L.E->GQ Q T (up3 s L).S/\GQ Q T (up3 s L).D/\GQ Q T (up3 s L).E:=λL h=>by
  have e:=h.1.signed h.2.2 c;have i:=h.2.1.denied (((e.row c (ks:=[24,25])).row c (ks:=[22,23])).test c) c;exact⟨e,i,(i.row c (ks:=[5])).row c (ks:=[6])⟩
 intro d
 induction d with
 | zero=>exact b _ ⟨(λ_ _ _ _ h=>by cases h),(λ_ _ _ _ h=>by cases h),(λ_ _ _ _ h=>by cases h)⟩
 | succ d ih=>exact b _ ih
end
theorem vau(s:mu)(H:s.size<=200)(st:St)(t:Ast)(st':St)(i:(lvl s 12).E st=.ok t st'):WfA t:=by
 have c:QC s WfA (λ_=>True):=⟨H,λ_=>trivial,λ_ _=>by simp[ka,WfA],λop _ _ j e=>⟨by show ¬op=8/\¬op=9;omega,e⟩,λ_ _ _ a b=>⟨a,b⟩,λ_ _ _ _ a b d=>⟨mx,a,b,d⟩,λ_ _ _ _ _ h=>⟨mx,h⟩,λ_ _ _ _ _ _ h=>⟨mx,h⟩⟩;exact((ve1 c 12).2.2 _ _ _ trivial i).1
end
section
theorem qpl(i h b:Addr)(w:World):
  CallsD prog 53 #[.pointer (some i),.pointer (some h),.pointer (some b)] .returning w λe j w'=>e=.returned (.tuple #[])/\j=.returning/\w'=w:=by
 refine callsD_of_wpS func53 rfl λc₀ cs k=>?_
 apply wpS_seq;apply wpS_region;simp[wpOpsS,go_sem,recoverD,k,ntmps53,Exit.thenS];refine wpS_of_wp ?_;rw[show(#[Value.pointer (some i),Value.pointer (some h),Value.pointer (some b)]++(Array.replicate 13 undef).setIfInBounds 3 Value.nilIface)=#[Value.pointer (some i),Value.pointer (some h),Value.pointer (some b),undef,undef,undef,Value.nilIface,undef,undef,undef,undef,undef,undef,undef,undef,undef] from rfl]
 go_wp2_with fail
 refine⟨rfl,.returning, ?_,_,results_none rfl _ _ _,rfl,rfl,rfl⟩;cases c₀
 simp_all
theorem qz0(v:Value)(w:World):(Instr.typeAssert (.iface 88 v) 20 88 true).run prog w=.ok (.tuple #[v,.bool true]) w:=nl
theorem va0(v:Value)(w:World):(binOp .eql 20 (.iface 88 v) .nilIface).run prog w=.ok (.bool false) w:=nl
theorem xB(B:Nat)(l k j:Value)(i b:Int)(older:List PanicEntry)(w:World)(C:B+2<w.heap.size)(r:w.cell? ⟨B,0,none⟩=some l)(q:w.cell? ⟨B+1,0,none⟩=some k)(o:w.cell? ⟨B+2,0,none⟩=some j)
  (F:w.frozen? ⟨B,0,none⟩=false) (E:w.frozen? ⟨B+1,0,none⟩=false) (D:w.frozen? ⟨B+2,0,none⟩=false) :
  CallsD prog 53 #[.pointer (some ⟨B,0,none⟩),.pointer (some ⟨B+1,0,none⟩),.pointer (some ⟨B+2,0,none⟩)] (.panicking ({ v:=.iface 88 (.agg #[.int .i64 i,.int .i64 b]),recovered:=false }::older)) w λe m w'=>
   e=.returned (.tuple #[])/\m=.panicking ({ v:=.iface 88 (.agg #[.int .i64 i,.int .i64 b]),recovered:=true }::older) /\
   w'.cell? ⟨B,0,none⟩=some (.pointer none)/\w'.cell? ⟨B+1,0,none⟩=some (.int .i64 i)/\w'.cell? ⟨B+2,0,none⟩=some (.int .i64 b)/\Below B w w':=by
 refine callsD_of_wpS func53 rfl λc₀ cs n=>?_
 apply wpS_seq;apply wpS_region;simp[wpOpsS,go_sem,recoverD,n,ntmps53,Exit.thenS];refine wpS_of_wp ?_;rw[show(#[Value.pointer (some ⟨B,0,none⟩),Value.pointer (some ⟨B+1,0,none⟩),Value.pointer (some ⟨B+2,0,none⟩)]++(Array.replicate 13 undef).setIfInBounds 3 (.iface 88 (.agg #[.int .i64 i,.int .i64 b])))=#[Value.pointer (some ⟨B,0,none⟩),Value.pointer (some ⟨B+1,0,none⟩),Value.pointer (some ⟨B+2,0,none⟩),undef,undef,undef,.iface 88 (.agg #[.int .i64 i,.int .i64 b]),undef,undef,undef,undef,undef,undef,undef,undef,undef] from rfl];have A:=qz0;have z:=va0;have n0:B<w.heap.size:=mw;have t:B+1<w.heap.size:=mw;have y:¬w.heap.size=B:=mw;have x:¬w.heap.size=B+1:=mw;have u:¬w.heap.size=B+2:=mw
 go_wp2_with fail
 go_region
 all_goals refine⟨rfl,.panicking ({ v:=.iface 88 (.agg #[.int .i64 i,.int .i64 b]),recovered:=true }::older), ?_,_,results_none rfl _ _ _,rfl,rfl, ?_, ?_, ?_, ?_⟩
 ·cases c₀
  simp_all
 ·rw[fg,bt _ _ _ my];simp[go_sem,r]
 ·rw[fg,bt _ _ _ my];simp[go_sem,q]
 ·rw[fg,bt _ _ _ my];simp[go_sem,o]
 ·exact(((((Below.refl B w).setCell nt _).setCell mx _).setCell mx _).alloc my _).drew
end
section
structure Above(lo:Nat)(w w':World):Prop where
 size:w.heap.size<=w'.heap.size
 block:∀k,lo<k->k<w.heap.size->w'.heap[k]?=w.heap[k]?
theorem Kept.above(h:Kept rb w w'):Above rb w w':=⟨h.size,λk c b=>h.block k b mw⟩
theorem Above.trans{b c:World}(h:Above lo a b)(k:Above lo b c):Above lo a c:=⟨bs h.size k.size,λi j e=>(k.block i j (bg e h.size)).trans (h.block i j e)⟩
theorem Above.setCell(h:Above lo a w){p:Addr}(e:p.block<=lo)(u:Value):Above lo a (w.setCell p u):=by
 refine⟨by rw[size_setCell];exact h.size,λk c b=>?_⟩;rw[bo w p u k mw];exact h.block k c b
theorem Above.cell(h:Above lo w w'){g:Nat}(c:lo<g)(b:g<w.heap.size)(j:Nat):w'.cell? ⟨g,j,none⟩=w.cell? ⟨g,j,none⟩:=
 aw (w:=w) (w':=w') (a:=⟨g,j,none⟩) (h.block g c b)
theorem TextsAt.keptA(b:Above lo w w'){v:Value}{ts:List mv}(h:TextsAt lo w v ts):TextsAt lo w' v ts:=by
 rcases h with h|⟨g,cap,i,c,e,l⟩
 ·exact .inl h
 ·exact .inr ⟨g,cap,i,c,bg e b.size,λj t k=>(b.cell c e j).trans (l j t k)⟩
theorem NodeAt.keptA(e:Above lo w w'){b:Nat}{sides:Value}(h:NodeAt lo w b p sides):NodeAt lo w' b p sides:=by
 obtain⟨k,i,c0,r,q,o,c4,n,tv,m,l⟩:=h;have c:=λj=>e.cell k i j
 exact⟨k,bg i e.size,(c 0).trans c0,(c 1).trans r,(c 2).trans q,(c 3).trans o,(c 4).trans c4,(c 5).trans n,tv,(c 6).trans m,l.keptA e⟩
theorem IsNode.above(i:Above lo w w'):∀{t:Ast} {v:Value},IsNode lo w v t->IsNode lo w' v t:=by
 have k:=λg j (e:lo<g) (c:g<w.heap.size)=>i.cell e c j
 intro t
 induction t with
 | leaf p=>rintro v⟨b,rfl,h⟩;exact⟨b,rfl,h.keptA i⟩
 | un p x ih=>
  rintro v⟨b,g,l,rfl,h,e,c,n,m⟩;exact⟨b,g,l,rfl,h.keptA i,e,bg c i.size,(k g 0 e c).trans n,ih m⟩
 | bin p x y ihx ihy=>
  rintro v⟨b,g,l,o,rfl,h,e,c,n,r,m,q⟩;exact⟨b,g,l,o,rfl,h.keptA i,e,bg c i.size,(k g 0 e c).trans n,(k g 1 e c).trans r,ihx m,ihy q⟩
 | tri p x y z ihx ihy ihz=>
  rintro v⟨b,g,l,o,u,rfl,h,e,c,n,r,B,m,q,A⟩;exact⟨b,g,l,o,u,rfl,h.keptA i,e,bg c i.size,(k g 0 e c).trans n,(k g 1 e c).trans r,(k g 2 e c).trans B,ihx m,ihy q,ihz A⟩
inductive RRes where
 | ok (t:Ast)
 | err (en pl:Int)
def st0:St:=⟨⟨0,0,[]⟩,0,0,0⟩
def qju(t:Ast)(st:St):RRes:=if st.tk.kind=0 then(match qs9 (qv t) with
 | none=>.ok t
 | some q=>.err 4 q) else .err 2 st.place
def vj(s:ByteArray):RRes:=if s.size<=200 then(match (lvl s 12).E (qg s st0) with
 | .err en pl=>.err en pl
 | .ok t st=>qju t st) else .err 1 0
def qyr(w:World)(r:RRes)(e:Ending)(w':World):Prop:=Below w.heap.size w w'/\match r with
 | .ok t=>∃v,e=.returned (.tuple #[v,.int .i64 0,.int .i64 0])/\IsNode (w.heap.size+3) w' v t
 | .err en pl=>e=.returned (.tuple #[.pointer none,.int .i64 en,.int .i64 pl])
theorem Kept.below{B:Nat}(h:Kept rb w w')(b:Below B a w)(i:B<=rb)(e:B<=w.heap.size):Below B a w':=
 ⟨h.os.trans b.os,h.tape.trans b.tape,h.output.trans b.output,bs b.size h.size,λk c=>(h.block k mw mw).trans (b.block k c)⟩
def gl(w:World)(s:ByteArray):World:=(((w.alloc (.cells #[.pointer none] 67)).alloc (.cells #[.int .i64 0] 41)).alloc (.cells #[.int .i64 0] 3)).alloc (.cells #[.string s,.int .i64 0,.int .i64 0,.int .i64 0,.string ⟨#[]⟩,.int .i64 0,.int .i64 0] 93)
theorem kJ(w:World)(s:mu):(gl w s).heap.size=w.heap.size+4:=by simp[gl]
theorem qj1(w:World)(s:mu):Xb w (gl w s):=(jS w _ _ _).alloc my _
theorem qj2(w:World)(s:mu):(gl w s).cell? ⟨w.heap.size,0,none⟩=some (.pointer none)/\(gl w s).cell? ⟨w.heap.size+1,0,none⟩=some (.int .i64 0)/\(gl w s).cell? ⟨w.heap.size+2,0,none⟩=some (.int .i64 0) /\
  (gl w s).frozen? ⟨w.heap.size,0,none⟩=false/\(gl w s).frozen? ⟨w.heap.size+1,0,none⟩=false/\(gl w s).frozen? ⟨w.heap.size+2,0,none⟩=false:=by
 unfold gl;refine⟨?_, ?_, ?_, ?_, ?_, ?_⟩
 ·rw[bt _ _ _ nj,bt _ _ _ nj,bt _ _ _ mx,cd _ _ _ _ rfl];rfl
 ·rw[bt _ _ _ nj,bt _ _ _ mx,cd _ _ _ _ mx];rfl
 ·rw[bt _ _ _ mx,cd _ _ _ _ mx];rfl
 ·rw[fv _ _ _ nj,fv _ _ _ nj,fv _ _ _ mx,im _ _ _ _ rfl]
 ·rw[fv _ _ _ nj,fv _ _ _ mx,im _ _ _ _ mx]
 ·rw[fv _ _ _ mx,im _ _ _ _ mx]
theorem vk2(w:World)(s:mu):RdAt (w.alloc (.cells #[.string s,.int .i64 0,.int .i64 0,.int .i64 0,.string ⟨#[]⟩,.int .i64 0,.int .i64 0] 93)) w.heap.size s st0:=
 ⟨mx,by simp[st0],by simp[st0],by simp[st0],by simp[st0,BS],by simp[st0],by simp[st0],λj=>mx⟩
theorem qz1(w:World)(s:mu):RdAt (gl w s) (w.heap.size+3) s st0:=by
 have b:w.heap.size+3=(((w.alloc (.cells #[.pointer none] 67)).alloc (.cells #[.int .i64 0] 41)).alloc (.cells #[.int .i64 0] 3)).heap.size:=mx;rw[b];exact vk2 _ s
theorem qge(w:World)(s:mu)(h:ErrOk w):ErrOk (gl w s):=(((h.alloc _).alloc _).alloc _).alloc _
theorem qj3(w:World)(s:mu)(h:ErrOk w)(b:s.size<=200):Ready (w.heap.size+3) s (gl w s) st0:=
 ⟨qz1 w s,by rw[kJ];omega,qge w s h,by have:=h.1;omega,⟨bj _,bj _,λh=>absurd rfl h⟩,mw⟩
end
section
theorem vn2{n:Nat}(h:n<=9223372036854775807):Rng (n:Int):=⟨mw,mw⟩
theorem qis:Rng 0:=⟨nh,nh⟩
theorem qjy(l:mv):Rng (qX l).num:=by
 unfold qX
 split
 ·exact qis
 ·split
  ·unfold vU;split<;>exact qis
  split
  ·unfold xt;split
   ·rename_i h;exact vn2 h
   ·exact qis
  split
  ·unfold vG;split<;>exact qis
  ·exact qis
theorem qxh(s:mu)(st:St):Rng (qg s st).tk.num:=by
 show Rng (qJ s.data.toList st.after).num;unfold qJ
 split
 ·exact qjy _
 ·exact qis
def qg9:Ast->Prop
 | .leaf p=>Rng p.num
 | .un p x=>Rng p.num/\qg9 x
 | .bin p x y=>Rng p.num/\qg9 x/\qg9 y
 | .tri p x y z=>Rng p.num/\qg9 x/\qg9 y/\qg9 z
theorem ve9(H:s.size<=200):QC s qg9 λk=>Rng k.num:=
 ⟨H,qxh s,λ_ h=>⟨λ_=>qis,h,qis,qis,qis⟩,λ_ _ _ _ h=>⟨qis,h⟩,λ_ _ _ a b=>⟨qis,a,b⟩,λ_ _ _ _ a b c=>⟨qis,a,b,c⟩,λ_ _ _ _ _ h=>⟨qis,h⟩,λ_ _ _ _ _ _ h=>⟨qis,h⟩⟩
end
section
def nextB(p:Pc)(t:List UInt8)(e:Nat->Bool):Nat->Bool
 | 0=>p.kind==2&&e 0
 | j+1=>if p.kind==2 then e (j+1)||nextB p t e j else if p.kind==1 then e j else e j&&t.getD j 0==p.c
def yF(ps:List Pc)(t:List UInt8)(e:Nat->Bool):Bool:=match ps with
 | []=>e t.length
 | p::r=>yF r t (nextB p t e)
def qgx(pat esc t:List UInt8):Bool:=match zi esc pat with
 | none=>false
 | some ps=>yF ps t λj=>j==0
def qai(x:V)(pat esc:List UInt8):V:=if x.kind==3 then bV (qgx pat esc x.str) else nV
def gP(x:V)(ts:List (List UInt8)):V:=ts.foldl (λf t=>orV f (eqV x (tV t))) (bV false)
def xr(p:Pay)(x y z:V):V:=
 if p.op=20 then qg3 (leV y x) (leV x z) else if p.op=21 then gP x p.texts else if p.op=22 then qai x p.str p.esc else jF p.op x y
def ofN(ps:List Pr)(p:Pay)(s:List V):V:=
 if p.op=0 then xL ps p.str else if p.op=1 then iV p.num else if p.op=2 then tV p.str else if p.op=3 then bV true else if p.op=4 then bV false
 else xr p (s.getD 0 nV) (s.getD 1 nV) (s.getD 2 nV)
def ofA(ps:List Pr):Ast->V
 | .leaf p=>ofN ps p []
 | .un p x=>ofN ps p [ofA ps x]
 | .bin p x y=>ofN ps p [ofA ps x,ofA ps y]
 | .tri p x y z=>ofN ps p [ofA ps x,ofA ps y,ofA ps z]
theorem vea(ps:List Pr)(t:Ast):ofA ps t=ofN ps (j6 t) ((qF t).map (ofA ps)):=by cases t<;>rfl
theorem gB(b:Bool):Rng (bV b).num:=by cases b<;>exact⟨nh,nh⟩
theorem ph:Rng nV.num:=⟨nh,nh⟩
theorem qfm{n:Int}(h:xp n=true):Rng (iV n).num:=by
 simp[xp]at h;exact h
theorem qkv(x:V):Rng (xP x).num:=by unfold xP;split;exact gB _;exact ph
theorem qwg(x y:V):Rng (qg3 x y).num:=by unfold qg3;split;exact gB _;split;exact gB _;exact ph
theorem vei(x y:V):Rng (orV x y).num:=by unfold orV;split;exact gB _;split;exact gB _;exact ph
theorem vk6(x y:V):Rng (eqV x y).num:=by unfold eqV;split;exact ph;exact gB _
theorem qnw(x y:V):Rng (yo x y).num:=by unfold yo;split;exact gB _;exact ph
theorem veh(x y:V):Rng (leV x y).num:=by unfold leV;split;exact gB _;exact ph
theorem qwe(x y:V):Rng (qiq x y).num:=by
 unfold qiq;split
 ·rename_i h;simp only[cn]at h;exact qfm h.2
 ·exact ph
theorem qwi(x y:V):Rng (qrs x y).num:=by
 unfold qrs;split
 ·rename_i h;simp only[cn]at h;exact qfm h.2
 ·exact ph
theorem vhr(x y:V):Rng (qir x y).num:=by
 unfold qir;split
 ·rename_i h;simp only[cn]at h;exact qfm h.2
 ·exact ph
theorem vhq(x y:V):Rng (qq0 x y).num:=by
 unfold qq0;split
 ·rename_i h;simp only[cn]at h;exact qfm h.2
 ·exact ph
theorem jB{c:Prop}[Decidable c]{a b:V}(h:Rng a.num)(e:Rng b.num):Rng (if c then a else b).num:=by
 split
 ·exact h
 ·exact e
theorem qnv(op:Int)(x y:V):Rng (jF op x y).num:=by
 unfold jF;exact jB (qkv _) (jB (qwg _ _) (jB (vei _ _) (jB (vk6 _ _) (jB (qkv _) (jB (qnw _ _) (jB (qnw _ _) (jB (veh _ _) (jB (veh _ _) (jB (qwe _ _) (jB (qwe _ _) (jB (qwi _ _) (jB (qwi _ _) (jB (vhr _ _) (jB (vhq _ _) (gB _)))))))))))))))
theorem qwf(x:V)(ts:List mv):∀f:V,Rng f.num->Rng (ts.foldl (λf t=>orV f (eqV x (tV t))) f).num:=by
 induction ts with
 | nil=>intro f h;exact h
 | cons t r ih=>intro f _;exact ih _ (vei _ _)
theorem qwh(p:Pay)(x y z:V):Rng (xr p x y z).num:=by
 unfold xr
 split
 ·exact qwg _ _
 split
 ·exact qwf x _ _ (gB _)
 split
 ·unfold qai;split;exact gB _;exact ph
 ·exact qnv _ _ _
def qdw(ps:List Pr):Prop:=∀p∈ps,Rng p.val.num
theorem qnu(h:qdw ps)(n:mv):Rng (xL ps n).num:=by
 unfold xL
 split
 ·rename_i p b;exact h p (ls b)
 ·exact ph
theorem vk7(h:qdw ps)(b:Rng p.num)(s:List V):Rng (ofN ps p s).num:=by
 unfold ofN
 split
 ·exact qnu h _
 split
 ·exact b
 split
 ·exact qis
 split
 ·exact gB _
 split
 ·exact gB _
 ·exact qwh _ _ _ _
def EvArg(w:World)(ev:Value)(ps:List Pr):Prop:=
 ps.length<=8/\((ps=[]/\∃a cap,ev=.slice a 0 cap)\/∃b off cap,ev=.slice (some ⟨b,off,none⟩) ps.length cap/\EvAt w b off ps/\b<w.heap.size)
theorem EvArg.below(h:EvArg w ev ps)(c:Xb w w'):EvArg w' ev ps:=by
 refine⟨h.1, ?_⟩;rcases h.2 with h|⟨b,off,cap,rfl,i,e⟩
 ·exact .inl h
 ·exact .inr ⟨b,off,cap,rfl,i.below c e,bg e c.size⟩
theorem EvArg.slice(h:EvArg w ev ps):∃a n c,ev=.slice a n c:=by
 rcases h.2 with⟨_,a,cap,rfl⟩|⟨b,off,cap,rfl,_⟩
 ·exact⟨_,_,_,rfl⟩
 ·exact⟨_,_,_,rfl⟩
theorem va6(h:EvArg w ev ps)(s:mu):
  nz 61 #[ev,.string s] w λe w'=>e=.returned (vV (xL ps s.data.toList))/\Xb w w':=by
 rcases h.2 with⟨rfl,a,cap,rfl⟩|⟨b,off,cap,rfl,c,i⟩
 ·exact qq3 a cap s w
 ·exact va5 b off cap ps s w h.1 c i
end
section
def vko(p:Pay):Pay:={ p with place:=0 }
def zq:Ast->Ast
 | .leaf p=>.leaf (vko p)
 | .un p x=>.un (vko p) (zq x)
 | .bin p x y=>.bin (vko p) (zq x) (zq y)
 | .tri p x y z=>.tri (vko p) (zq x) (zq y) (zq z)
theorem qhh(t:Ast):opA (zq t)=opA t:=by cases t<;>rfl
structure TS where
 toks:List Tk
 op:Nat
inductive TRes where
 | ok (t:Ast) (ts:TS)
 | err (en:Int)
def hd(L:List Tk):Tk:=match L with
 | []=>qh 0
 | k::_=>k
def TS.tk(ts:TS):Tk:=hd ts.toks
def TS.next(ts:TS):TS:=⟨ts.toks.tail,ts.op⟩
def qam(f:TS->TRes)(ts:TS)(l:Ast):TRes:=match f ts.next with
 | .ok r ts'=>.ok (.bin ⟨qcv ts.tk.kind,0,0,[],[],[]⟩ l r) ts'
 | .err en=>.err en
def pA(f:TS->TRes)(ks:List Int):Nat->Ast->TS->TRes
 | 0,l,ts=>.ok l ts
 | n+1,l,ts=>if ks.contains ts.tk.kind then(match qam f ts l with
   | .ok l' ts'=>pA f ks n l' ts'
   | .err en=>.err en) else .ok l ts
def qp1(f:TS->TRes)(ks:List Int)(ts:TS):TRes:=match f ts with
 | .ok l ts'=>pA f ks (ts'.toks.length+1) l ts'
 | .err en=>.err en
def tIn(ts:TS):TS:=⟨ts.toks.tail,ts.op+1⟩
def qan(f:TS->TRes)(o:Int)(ts:TS):TRes:=if ts.op=12 then .err 3 else match f (tIn ts) with
 | .ok x ts'=>.ok (.un ⟨o,0,0,[],[],[]⟩ x) ⟨ts'.toks,ts.op⟩
 | .err en=>.err en
def gi(f:TS->TRes)(ts:TS):TRes:=if ts.op=12 then .err 3 else match f (tIn ts) with
 | .ok t ts'=>if ts'.tk.kind=27 then .ok t ⟨ts'.toks.tail,ts.op⟩ else .err 2
 | .err en=>.err en
def qmb(o:Int)(num:Int)(str:List UInt8):Ast:=.leaf ⟨o,0,num,str,[],[]⟩
def xG(fS fE:TS->TRes)(ts:TS):TRes:=
 if ts.tk.kind=22 then qan fS 14 ts else if ts.tk.kind=23 then qan fS 15 ts else if ts.tk.kind=26 then gi fE ts
 else if ts.tk.kind=2 then .ok (qmb 0 0 ts.tk.str) ts.next
 else if ts.tk.kind=3 then .ok (qmb 1 ts.tk.num []) ts.next
 else if ts.tk.kind=4 then .ok (qmb 2 0 ts.tk.str) ts.next
 else if ts.tk.kind=8 then .ok (qmb 3 0 []) ts.next
 else if ts.tk.kind=9 then .ok (qmb 4 0 []) ts.next else .err 2
def vkf(l:Ast):Ast:=.un ⟨23,0,0,[],[],[]⟩ l
def tIsNull(l:Ast)(ts:TS):TRes:=
 if ts.next.tk.kind=7 then(if ts.next.next.tk.kind=15 then .ok (.un ⟨5,0,0,[],[],[]⟩ (vkf l)) ts.next.next.next else .err 2)
 else if ts.next.tk.kind=15 then .ok (vkf l) ts.next.next else .err 2
def zJ(f:TS->TRes)(l:Ast)(ts:TS):TRes:=if ts.tk.kind=10 then(match f ts.next with
  | .ok lo V1=>if V1.tk.kind=5 then(match f V1.next with
    | .ok hi O8=>.ok (.tri ⟨20,0,0,[],[],[]⟩ l lo hi) O8
    | .err en=>.err en) else .err 2
  | .err en=>.err en) else .err 2
def zC(l:Ast):Nat->List (List UInt8)->TS->TRes
 | 0,_,_=>.err 0
 | n+1,xs,ts=>if ts.tk.kind=28 then(if ts.next.tk.kind=4 then zC l n (xs++[ts.next.tk.str]) ts.next.next else .err 2)
   else if ts.tk.kind=27 then .ok (.un ⟨21,0,0,[],[],xs⟩ l) ts.next else .err 2
def tInRes(l:Ast)(ts:TS):TRes:=
 if ts.next.tk.kind=26 then(if ts.next.next.tk.kind=4 then zC l (ts.toks.length+1) [ts.next.next.tk.str] ts.next.next.next else .err 2) else .err 2
def tLike(l:Ast)(ts:TS):TRes:=
 if ts.next.tk.kind=4 then
  (if ts.next.next.tk.kind=13 then
   (if ts.next.next.next.tk.kind=4/\ts.next.next.next.tk.str.length=1/\(zi ts.next.next.next.tk.str ts.next.tk.str).isSome=true
    then .ok (.un ⟨22,0,0,ts.next.tk.str,ts.next.next.next.tk.str,[]⟩ l) ts.next.next.next.next else .err 2)
  else .ok (.un ⟨22,0,0,ts.next.tk.str,[],[]⟩ l) ts.next.next)
 else .err 2
def jK(f:TS->TRes)(bare:Bool)(l:Ast)(ts:TS):TRes:=
 if ts.tk.kind=11/\bare=true then tInRes l ts else if ts.tk.kind=12/\bare=true then tLike l ts else zJ f l ts
def qd1(f:TS->TRes)(bare:Bool)(l:Ast)(ts:TS):TRes:=
 if ts.tk.kind=16\/ts.tk.kind=17\/ts.tk.kind=18\/ts.tk.kind=19\/ts.tk.kind=20\/ts.tk.kind=21 then qam f ts l
 else if ts.tk.kind=14 then(if bare=true then tIsNull l ts else .ok l ts)
 else if ts.tk.kind=7 then(match jK f bare l ts.next with
  | .ok t ts'=>.ok (.un ⟨5,0,0,[],[],[]⟩ t) ts'
  | .err en=>.err en)
 else if ts.tk.kind=10\/ts.tk.kind=11\/ts.tk.kind=12 then jK f bare l ts
 else .ok l ts
def qd2(f:TS->TRes)(ts:TS):TRes:=match f ts with
 | .ok l ts'=>qd1 f (ts.tk.kind==2&&opA l==0) l ts'
 | .err en=>.err en
def yi(fD fT:TS->TRes)(ts:TS):TRes:=if ts.tk.kind=7 then qan fD 5 ts else fT ts
structure T3 where
 S:TS->TRes
 D:TS->TRes
 E:TS->TRes
def tUp(L:T3):T3:=
 ⟨xG L.S L.E,yi L.D (qd2 (qp1 (qp1 (xG L.S L.E) [24,25]) [22,23])),qp1 (qp1 (yi L.D (qd2 (qp1 (qp1 (xG L.S L.E) [24,25]) [22,23]))) [5]) [6]⟩
def vke:Nat->T3
 | 0=>tUp ⟨λ_=>.err 0,λ_=>.err 0,λ_=>.err 0⟩
 | d+1=>tUp (vke d)
inductive Str (s:ByteArray):St->List Tk->Prop where
 | nil {st:St} (h:st.tk=qh 0):Str s st []
 | cons {st:St} {L:List Tk} (h:st.tk.kind≠0) (r:Str s (qg s st) L):Str s st (st.tk::L)
theorem Str.tk(h:Str s st L):hd L=st.tk:=by
 cases h with
 | nil h=>exact h.symm
 | cons _ _=>rfl
theorem Str.next(h:Str s st L)(b:st.tk.kind≠0):Str s (qg s st) L.tail:=by
 cases h with
 | nil h=>rw[h]at b;exact absurd rfl b
 | cons _ r=>exact r
theorem Str.withOp(h:Str s st L)(n:Nat):Str s { st with op:=n } L:=by
 induction h generalizing n with
 | nil h=>exact .nil h
 | cons h r ih=>
  rename_i st L;exact .cons (st:={ st with op:=n }) h (ih n)
theorem Str.len(h:Str s st L):Fine s st->L.length<=s.size - st.place:=by
 induction h with
 | nil h=>intro _;simp
 | cons h r ih=>
  rename_i st L;intro b;have i:=ih b.next;have e:=b.lt h;have c:=b.next.place;simp only[eh];omega
def SimR(s:ByteArray):Res->TRes->Prop
 | .ok t st,.ok t' ts=>zq t=t'/\Str s st ts.toks/\st.op=ts.op/\Fine s st
 | .err en _,.err en'=>en=en'
 | _,_=>False
def Sim(s:ByteArray)(f:St->Res)(f':TS->TRes):Prop:=∀st ts,Fine s st->Str s st ts.toks->st.op=ts.op->SimR s (f st) (f' ts)
end
section
theorem SimR.cases{r:Res}{b:TRes}(h:SimR s r b):(∃t st ts,r=.ok t st/\b=.ok (zq t) ts/\Str s st ts.toks/\st.op=ts.op/\Fine s st)\/∃en pl,r=.err en pl/\b=.err en:=by
 cases r with
 | ok t st=>
  cases b with
  | ok t' ts=>obtain⟨rfl,i,e,c⟩:=h;exact .inl ⟨t,st,ts,rfl,rfl,i,e,c⟩
  | err en=>exact h.elim
 | err en pl=>
  cases b with
  | ok t' ts=>exact h.elim
  | err en'=>obtain rfl:en=en':=h;exact .inr ⟨en,pl,rfl,rfl⟩
theorem vX{ts:TS}(h:Str s st ts.toks):ts.tk=st.tk:=h.tk
theorem Sim.join{i:TS->TRes}(h:Sim s f i)(st:St)(ts:TS)(l:Ast)(m:Fine s st)(e:Str s st ts.toks)(j:st.op=ts.op)(k:st.tk.kind≠0):SimR s (jy s f st l) (qam i ts (zq l)):=by
 have:=h (qg s st) ts.next m.next (e.next k) j;unfold jy qam;rw[vX e];rcases this.cases with⟨t,y,x,c,b,q,o,n⟩|⟨u,r,c,b⟩
 ·rw[c,b];exact⟨rfl,q,o,n⟩
 ·rw[c,b];rfl
def Shr(f:TS->TRes):Prop:=∀ts t ts',f ts=.ok t ts'->ts'.toks.length<=ts.toks.length
def vit(g:Ast->TS->TRes):Prop:=∀l ts t ts',g l ts=.ok t ts'->ts'.toks.length<=ts.toks.length
theorem qa8(L:List Tk):L.tail.length<=L.length:=by rw[List.length_tail];omega
theorem qP(ts:TS):ts.next.toks.length<=ts.toks.length:=qa8 _
theorem Shr.join{f:TS->TRes}(h:Shr f)(ts:TS)(l t:Ast)(b:TS)(c:qam f ts l=.ok t b):b.toks.length<=ts.next.toks.length:=by
 unfold qam at c
 split at c
 ·rename_i e;injection c with _ i;subst i;exact h _ _ _ e
 ·cases c
theorem Shr.loop{f:TS->TRes}(h:Shr f)(ks:List Int):∀n l ts t b,pA f ks n l ts=.ok t b->b.toks.length<=ts.toks.length:=by
 intro n
 induction n with
 | zero=>intro l ts t b c;rw[pA]at c;injection c with _ e;subst e;exact nt
 | succ n ih=>
  intro l ts t b c;rw[pA]at c
  split at c
  ·split at c
   ·rename_i i;exact bs (ih _ _ _ _ c) (bs (h.join _ _ _ _ i) (qP _))
   ·cases c
  ·injection c with _ e;subst e;exact nt
theorem Shr.row{f:TS->TRes}(h:Shr f)(ks:List Int):Shr (qp1 f ks):=by
 intro ts t c b;unfold qp1 at b
 split at b
 ·rename_i e;exact bs (h.loop ks _ _ _ _ _ b) (h _ _ _ e)
 ·cases b
theorem Shr.sign{f:TS->TRes}(h:Shr f)(o:Int):Shr (qan f o):=by
 intro ts t c b;unfold qan at b
 split at b
 ·cases b
 ·split at b
  ·rename_i e
   have i:=h _ _ _ e;injection b with _ j;subst j;exact bs i (qa8 ts.toks)
  ·cases b
theorem Shr.group{f:TS->TRes}(h:Shr f):Shr (gi f):=by
 intro ts t c b;unfold gi at b
 split at b
 ·cases b
 ·split at b
  ·rename_i e;split at b
   ·have i:=h _ _ _ e
    injection b with _ j;subst j;exact bs (qa8 _) (bs i (qa8 ts.toks))
   ·cases b
  ·cases b
theorem Shr.signed{fS fE:TS->TRes}(e:Shr fS)(i:Shr fE):Shr (xG fS fE):=by
 intro ts t h b;unfold xG at b
 split at b
 ·exact e.sign 14 _ _ _ b
 split at b
 ·exact e.sign 15 _ _ _ b
 split at b
 ·exact i.group _ _ _ b
 split at b
 ·injection b with _ c;subst c;exact qP _
 split at b
 ·injection b with _ c;subst c;exact qP _
 split at b
 ·injection b with _ c;subst c;exact qP _
 split at b
 ·injection b with _ c;subst c;exact qP _
 split at b
 ·injection b with _ c;subst c;exact qP _
 ·cases b
theorem qrl:vit tIsNull:=by
 intro l ts t e b;unfold tIsNull at b
 split at b
 ·split at b
  ·injection b with _ c;subst c;exact bs (qP _) (bs (qP _) (qP _))
  ·cases b
 ·split at b
  ·injection b with _ c;subst c;exact bs (qP _) (qP _)
  ·cases b
theorem qrk(l:Ast):∀n xs ts t c,zC l n xs ts=.ok t c->c.toks.length<=ts.toks.length:=by
 intro n
 induction n with
 | zero=>intro xs ts t c b;rw[zC]at b;cases b
 | succ n ih=>
  intro xs ts t c b;rw[zC]at b
  split at b
  ·split at b
   ·exact bs (ih _ _ _ _ b) (bs (qP _) (qP _))
   ·cases b
  ·split at b
   ·injection b with _ e;subst e;exact qP _
   ·cases b
theorem vka:vit tInRes:=by
 intro l ts t c b;unfold tInRes at b
 split at b
 ·split at b
  ·exact bs (qrk l _ _ _ _ _ b) (bs (qP _) (bs (qP _) (qP _)))
  ·cases b
 ·cases b
theorem vcz:vit tLike:=by
 intro l ts t e b;unfold tLike at b
 split at b
 ·split at b
  ·split at b
   ·injection b with _ c;subst c;exact bs (qP _) (bs (qP _) (bs (qP _) (qP _)))
   ·cases b
  ·injection b with _ c;subst c;exact bs (qP _) (qP _)
 ·cases b
theorem Shr.between{f:TS->TRes}(h:Shr f):vit (zJ f):=by
 intro l ts t c b;unfold zJ at b
 split at b
 ·split at b
  ·rename_i j;split at b
   ·split at b
    ·rename_i i;injection b with _ e;subst e
     exact bs (h _ _ _ i) (bs (qP _) (bs (h _ _ _ j) (qP _)))
    ·cases b
   ·cases b
  ·cases b
 ·cases b
theorem Shr.keyword{f:TS->TRes}(h:Shr f)(bare:Bool):vit (jK f bare):=by
 intro l ts t c b;unfold jK at b
 split at b
 ·exact vka _ _ _ _ b
 split at b
 ·exact vcz _ _ _ _ b
 ·exact h.between _ _ _ _ b
theorem Shr.test{f:TS->TRes}(h:Shr f):Shr (qd2 f):=by
 intro ts t e b;unfold qd2 at b
 split at b
 ·rename_i i
  refine bs ?_ (h _ _ _ i);unfold qd1 at b
  split at b
  ·exact bs (h.join _ _ _ _ b) (qP _)
  split at b
  ·split at b
   ·exact qrl _ _ _ _ b
   ·injection b with _ c;subst c;exact nt
  split at b
  ·split at b
   ·rename_i j;injection b with _ c;subst c;exact bs (h.keyword _ _ _ _ _ j) (qP _)
   ·cases b
  split at b
  ·exact h.keyword _ _ _ _ _ b
  ·injection b with _ c;subst c;exact nt
 ·cases b
theorem Shr.denied{e c:TS->TRes}(j:Shr e)(i:Shr c):Shr (yi e c):=by
 intro ts t h b;unfold yi at b
 split at b
 ·exact j.sign 5 _ _ _ b
 ·exact i _ _ _ b
end
section
theorem Str.tail_lt(h:Str s st L)(b:st.tk.kind≠0):L.tail.length<L.length:=by
 cases h with
 | nil h=>rw[h]at b;exact absurd rfl b
 | cons _ _=>simp
theorem Sim.loop{j:TS->TRes}(h:Sim s f j)(D:Shr j)(ks:List Int)(B:ks.contains 0=false):∀n b l st ts,ts.toks.length<n->ts.toks.length<b->Fine s st->Str s st ts.toks->st.op=ts.op->SimR s (j9 s f ks n l st) (pA j ks b (zq l) ts):=by
 intro n
 induction n with
 | zero=>intro b l st ts u;omega
 | succ n ih=>
  intro b l st ts u G r c o;obtain⟨m,rfl⟩:∃m,b=m+1:=⟨b - 1,mw⟩;rw[j9,pA,vX c]
  by_cases hc:ks.contains st.tk.kind=true
  ·have q:st.tk.kind≠0:=λe=>by rw[e,B]at hc;cases hc
   rw[bh hc,bh hc];have I:ts.next.toks.length<ts.toks.length:=c.tail_lt q;rcases(h.join st ts l r c o q).cases with⟨t,C,A,k,i,z,y,x⟩|⟨H,E,k,i⟩
   ·have F:=D.join _ _ _ _ i
    rw[k,i];exact ih m t C A mw mw x z y
   ·rw[k,i];rfl
  ·rw[aj hc,aj hc]
   exact⟨rfl,c,o,r⟩
theorem Sim.row{b:TS->TRes}(h:Sim s f b)(u:Shr b)(ks:List Int)(o:ks.contains 0=false):Sim s (jH s f ks) (qp1 b ks):=by
 intro st ts r k l;unfold jH qp1;rcases(h st ts r k l).cases with⟨t,q,n,e,c,j,m,i⟩|⟨z,x,e,c⟩
 ·rw[e,c]
  have y:=j.len i;exact h.loop u ks o _ _ t q n mw mw i j m
 ·rw[e,c];rfl
theorem Sim.sign{i:TS->TRes}(h:Sim s f i)(o:Int)(st:St)(ts:TS)(n:Fine s st)(j:Str s st ts.toks)(e:st.op=ts.op)(k:st.tk.kind≠0):SimR s (vu s f o st) (qan i o ts):=by
 unfold vu qan;rw[e]
 split
 ·rfl
 ·rcases(h (ko s st) (tIn ts) (n.next.op _) ((j.next k).withOp _) (by show st.op+1=ts.op+1;rw[e])).cases with⟨t,y,x,c,b,m,u,l⟩|⟨r,q,c,b⟩
  ·rw[c,b];exact⟨rfl,m.withOp _,rfl,l.op _⟩
  ·rw[c,b];rfl
theorem Sim.group{i:TS->TRes}(h:Sim s f i)(st:St)(ts:TS)(q:Fine s st)(l:Str s st ts.toks)(e:st.op=ts.op)(m:st.tk.kind≠0):SimR s (vi s f st) (gi i ts):=by
 unfold vi gi;rw[e]
 split
 ·rfl
 ·rcases(h (ko s st) (tIn ts) (q.next.op _) ((l.next m).withOp _) (by show st.op+1=ts.op+1;rw[e])).cases with⟨t,k,o,c,b,j,x,n⟩|⟨u,r,c,b⟩
  ·rw[c,b]
   show SimR s (if k.tk.kind=27 then _ else _) (if o.tk.kind=27 then _ else _);rw[vX j]
   by_cases aM:k.tk.kind=27
   ·rw[bh aM,bh aM]
    exact⟨rfl,(j.next (by rw[aM];decide)).withOp _,rfl,n.next.op _⟩
   ·rw[aj aM,aj aM];rfl
  ·rw[c,b];rfl
theorem Sim.signed{fS fE:St->Res}{h i:TS->TRes}(j:Sim s fS h)(k:Sim s fE i):Sim s (vO s fS fE) (xG h i):=by
 intro st ts e b c;unfold vO xG;rw[vX b]
 by_cases T5:st.tk.kind=22
 ·rw[bh T5,bh T5];exact j.sign 14 st ts e b c (by rw[T5];decide)
 rw[aj T5,aj T5]
 by_cases J8:st.tk.kind=23
 ·rw[bh J8,bh J8];exact j.sign 15 st ts e b c (by rw[J8];decide)
 rw[aj J8,aj J8]
 by_cases bC:st.tk.kind=26
 ·rw[bh bC,bh bC];exact k.group st ts e b c (by rw[bC];decide)
 rw[aj bC,aj bC]
 by_cases h2:st.tk.kind=2
 ·rw[bh h2,bh h2];exact⟨rfl,b.next (by rw[h2];decide),c,e.next⟩
 rw[aj h2,aj h2]
 by_cases h3:st.tk.kind=3
 ·rw[bh h3,bh h3];exact⟨rfl,b.next (by rw[h3];decide),c,e.next⟩
 rw[aj h3,aj h3]
 by_cases h4:st.tk.kind=4
 ·rw[bh h4,bh h4];exact⟨rfl,b.next (by rw[h4];decide),c,e.next⟩
 rw[aj h4,aj h4]
 by_cases h8:st.tk.kind=8
 ·rw[bh h8,bh h8];exact⟨rfl,b.next (by rw[h8];decide),c,e.next⟩
 rw[aj h8,aj h8]
 by_cases h9:st.tk.kind=9
 ·rw[bh h9,bh h9];exact⟨rfl,b.next (by rw[h9];decide),c,e.next⟩
 rw[aj h9,aj h9];rfl
theorem Sim.denied{j i:St->Res}{c b:TS->TRes}(m:Sim s j c)(l:Sim s i b):Sim s (jq s j i) (yi c b):=by
 intro st ts k e h;unfold jq yi;rw[vX e]
 by_cases h7:st.tk.kind=7
 ·rw[bh h7,bh h7];exact m.sign 5 st ts k e h (by rw[h7];decide)
 ·rw[aj h7,aj h7];exact l st ts k e h
end
section
def vkr(s:ByteArray)(k:Int)(g:Ast->St->Res)(g':Ast->TS->TRes):Prop:=∀l st ts,Fine s st->Str s st ts.toks->st.op=ts.op->st.tk.kind=k->SimR s (g l st) (g' (zq l) ts)
theorem go1{ts:TS}(h:Fine s st)(b:Str s st ts.toks)(c:st.op=ts.op)(e:st.tk.kind≠0):Fine s (qg s st)/\Str s (qg s st) ts.next.toks/\(qg s st).op=ts.next.op:=⟨h.next,b.next e,c⟩
theorem qrp(s:mu):vkr s 14 (jd s) tIsNull:=by
 intro l st ts t n o q;obtain⟨j,c,i⟩:=go1 t n o (by rw[q];decide);unfold jd tIsNull;rw[vX c]
 by_cases h7:(qg s st).tk.kind=7
 ·rw[bh h7,bh h7]
  obtain⟨h,b,e⟩:=go1 j c i (by rw[h7];decide);rw[vX b]
  by_cases N8:(qg s (qg s st)).tk.kind=15
  ·rw[bh N8,bh N8]
   obtain⟨r,k,m⟩:=go1 h b e (by rw[N8];decide);exact⟨rfl,k,m,r⟩
  ·rw[aj N8,aj N8];rfl
 ·rw[aj h7,aj h7]
  by_cases N8:(qg s st).tk.kind=15
  ·rw[bh N8,bh N8]
   obtain⟨h,b,e⟩:=go1 j c i (by rw[N8];decide);exact⟨rfl,b,e,h⟩
  ·rw[aj N8,aj N8];rfl
theorem Sim.between{k:TS->TRes}(h:Sim s f k):∀l st ts,Fine s st->Str s st ts.toks->st.op=ts.op->SimR s (qQ s f l st) (zJ k (zq l) ts):=by
 intro l st ts J j z;unfold qQ zJ;rw[vX j]
 by_cases L1:st.tk.kind=10
 ·rw[bh L1,bh L1]
  obtain⟨E,r,y⟩:=go1 J j z (by rw[L1];decide);rcases(h _ _ E r y).cases with⟨t,n,I,i,e,m,H,G⟩|⟨F,u,i,e⟩
  ·rw[i,e]
   show SimR s (if n.tk.kind=5 then _ else _) (if I.tk.kind=5 then _ else _);rw[vX m]
   by_cases h5:n.tk.kind=5
   ·rw[bh h5,bh h5]
    obtain⟨D,q,x⟩:=go1 G m H (by rw[h5];decide);rcases(h _ _ D q x).cases with⟨K,M,o,c,b,C,B,A⟩|⟨F,u,c,b⟩
    ·rw[c,b];exact⟨rfl,C,B,A⟩
    ·rw[c,b];rfl
   ·rw[aj h5,aj h5];rfl
  ·rw[i,e];rfl
 ·rw[aj L1,aj L1];rfl
theorem qro(s:mu)(l:Ast)(t:Nat):∀n b xs st ts,ts.toks.length<n->ts.toks.length<b->Fine s st->Str s st ts.toks->st.op=ts.op->SimR s (zn s l t n xs st) (zC (zq l) b xs ts):=by
 intro n
 induction n with
 | zero=>intro b xs st ts x;omega
 | succ n ih=>
  intro b xs st ts x B q e k;obtain⟨m,rfl⟩:∃m,b=m+1:=⟨b - 1,mw⟩;rw[zn,zC,vX e]
  by_cases L7:st.tk.kind=28
  ·rw[bh L7,bh L7]
   have o:st.tk.kind≠0:=by rw[L7];decide
   obtain⟨j,c,i⟩:=go1 q e k o;have A:ts.next.toks.length<ts.toks.length:=e.tail_lt o;rw[vX c]
   by_cases h4:(qg s st).tk.kind=4
   ·rw[bh h4,bh h4]
    obtain⟨y,r,u⟩:=go1 j c i (by rw[h4];decide);have z:=qP ts.next;exact ih m _ _ _ mw mw y r u
   ·rw[aj h4,aj h4];rfl
  ·rw[aj L7,aj L7]
   by_cases aM:st.tk.kind=27
   ·rw[bh aM,bh aM]
    obtain⟨j,c,i⟩:=go1 q e k (by rw[aM];decide);exact⟨rfl,c,i,j⟩
   ·rw[aj aM,aj aM];rfl
theorem vkb(s:mu):vkr s 11 (xj s) tInRes:=by
 intro l st ts u n o q;obtain⟨t,e,m⟩:=go1 u n o (by rw[q];decide);unfold xj tInRes;rw[vX e]
 by_cases bC:(qg s st).tk.kind=26
 ·rw[bh bC,bh bC]
  obtain⟨r,c,k⟩:=go1 t e m (by rw[bC];decide);rw[vX c]
  by_cases h4:(qg s (qg s st)).tk.kind=4
  ·rw[bh h4,bh h4]
   obtain⟨i,b,j⟩:=go1 r c k (by rw[h4];decide);have A:=b.len i;have z:=qP ts;have y:=qP ts.next;have x:=qP ts.next.next;exact qro s l st.place _ _ _ _ _ mw mw i b j
  ·rw[aj h4,aj h4];rfl
 ·rw[aj bC,aj bC];rfl
theorem vd1(s:mu):vkr s 12 (vg s) tLike:=by
 intro l st ts z q r t;obtain⟨y,e,o⟩:=go1 z q r (by rw[t];decide);unfold vg tLike;rw[vX e]
 by_cases h4:(qg s st).tk.kind=4
 ·rw[bh h4,bh h4]
  obtain⟨j,b,i⟩:=go1 y e o (by rw[h4];decide);rw[vX b]
  by_cases O7:(qg s (qg s st)).tk.kind=13
  ·rw[bh O7,bh O7]
   obtain⟨x,c,n⟩:=go1 j b i (by rw[O7];decide);rw[vX c];unfold kY
   by_cases g4:(qg s (qg s (qg s st))).tk.kind=4
   ·rw[bh g4]
    by_cases g1:(qg s (qg s (qg s st))).tk.str.length=1
    ·rw[bh g1]
     by_cases g2:(zi (qg s (qg s (qg s st))).tk.str (qg s st).tk.str).isSome=true
     ·rw[bh g2,bh ⟨g4,g1,g2⟩]
      obtain⟨u,k,m⟩:=go1 x c n (by rw[g4];decide);exact⟨rfl,k,m,u⟩
     ·rw[aj g2,aj (λh=>g2 h.2.2)];rfl
    ·rw[aj g1,aj (λh=>g1 h.2.1)];rfl
   ·rw[aj g4,aj (λh=>g4 h.1)];rfl
  ·rw[aj O7,aj O7]
   exact⟨rfl,b,i,j⟩
 ·rw[aj h4,aj h4];rfl
theorem Sim.keyword{i:TS->TRes}(h:Sim s f i)(bare:Bool)(l:Ast)(st:St)(ts:TS)(e:Fine s st)(b:Str s st ts.toks)(c:st.op=ts.op):SimR s (vh s f (xj s) (vg s) bare l st) (jK i bare (zq l) ts):=by
 unfold vh jK;rw[vX b]
 by_cases M8:st.tk.kind=11/\bare=true
 ·rw[bh M8,bh M8];exact vkb s l st ts e b c M8.1
 rw[aj M8,aj M8]
 by_cases E7:st.tk.kind=12/\bare=true
 ·rw[bh E7,bh E7];exact vd1 s l st ts e b c E7.1
 rw[aj E7,aj E7];exact h.between l st ts e b c
theorem Sim.tail{k:TS->TRes}(h:Sim s f k)(bare:Bool)(l:Ast)(st:St)(ts:TS)(e:Fine s st)(b:Str s st ts.toks)(c:st.op=ts.op):SimR s (jO s f (xj s) (vg s) bare l st) (qd1 k bare (zq l) ts):=by
 unfold jO qd1;rw[vX b]
 by_cases h16:st.tk.kind=16\/st.tk.kind=17\/st.tk.kind=18\/st.tk.kind=19\/st.tk.kind=20\/st.tk.kind=21
 ·rw[bh h16,bh h16];exact h.join st ts l e b c mw
 rw[aj h16,aj h16]
 by_cases Y7:st.tk.kind=14
 ·rw[bh Y7,bh Y7]
  cases bare
  ·exact⟨rfl,b,c,e⟩
  ·exact qrp s l st ts e b c Y7
 rw[aj Y7,aj Y7]
 by_cases h7:st.tk.kind=7
 ·rw[bh h7,bh h7]
  obtain⟨o,m,n⟩:=go1 e b c (by rw[h7];decide);rcases(h.keyword bare l _ _ o m n).cases with⟨t,A,z,j,i,u,r,q⟩|⟨y,x,j,i⟩
  ·rw[j,i];exact⟨rfl,u,r,q⟩
  ·rw[j,i];rfl
 rw[aj h7,aj h7]
 by_cases L1:st.tk.kind=10\/st.tk.kind=11\/st.tk.kind=12
 ·rw[bh L1,bh L1];exact h.keyword bare l st ts e b c
 ·rw[aj L1,aj L1];exact⟨rfl,b,c,e⟩
theorem Sim.test{b:TS->TRes}(h:Sim s f b):Sim s (jP s f (xj s) (vg s)) (qd2 b):=by
 intro st ts q i l;unfold jP qd2;rcases(h st ts q i l).cases with⟨t,k,j,e,c,o,n,m⟩|⟨u,r,e,c⟩
 ·rw[e,c]
  show SimR s (jO s f (xj s) (vg s) (pM st t) t k) (qd1 b (ts.tk.kind==2&&opA (zq t)==0) (zq t) j);rw[vX i,qhh];exact h.tail _ t k j m o n
 ·rw[e,c];rfl
structure Sim3(s:ByteArray)(L:L3)(L':T3):Prop where
 S:Sim s L.S L'.S
 D:Sim s L.D L'.D
 E:Sim s L.E L'.E
 s':Shr L'.S
 d':Shr L'.D
 e':Shr L'.E
theorem vek{L:L3}{l:T3}(h:Sim3 s L l):Sim3 s (up3 s L) (tUp l):=by
 have j:=Sim.signed h.S h.E;have b:=Shr.signed h.s' h.e';have r:=j.row b [24,25] rfl;have e:=b.row [24,25];have o:=r.row e [22,23] rfl;have m:=e.row [22,23];have q:=o.test;have n:=m.test;have k:=Sim.denied h.D q;have c:=Shr.denied h.d' n;have t:=k.row c [5] rfl;have i:=c.row [5];exact⟨j,k,t.row i [6] rfl,b,c,i.row [6]⟩
theorem qm9(s:mu):∀d,Sim3 s (lvl s d) (vke d):=by
 intro d
 induction d with
 | zero=>exact vek ⟨(λ_ _ _ _ _=>rfl),(λ_ _ _ _ _=>rfl),(λ_ _ _ _ _=>rfl),(λ_ _ _ h=>by cases h),(λ_ _ _ h=>by cases h),(λ_ _ _ h=>by cases h)⟩
 | succ d ih=>exact vek ih
end
section
theorem qic(b:s.size<=200)(st:St):(qg s st).tk.str.length<=200:=bs (qa6 s st) b
def Bp(p:Pay):Prop:=p.str.length<=200/\p.texts.length<=1000
def qg6:Ast->Prop
 | .leaf p=>Bp p
 | .un p x=>Bp p/\qg6 x
 | .bin p x y=>Bp p/\qg6 x/\qg6 y
 | .tri p x y z=>Bp p/\qg6 x/\qg6 y/\qg6 z
theorem bp0(op b num:Int):Bp ⟨op,b,num,[],[],[]⟩:=⟨mx,mx⟩
theorem bp1{op b num:Int}{s:mv}(h:s.length<=200):Bp ⟨op,b,num,s,[],[]⟩:=⟨h,mx⟩
theorem vdt(H:s.size<=200):QC s qg6 λk=>k.str.length<=200:=
 ⟨H,qic H,λ_ h=>⟨λ_=>bp1 h,bp0 _ _ _,bp1 h,bp0 _ _ _,bp0 _ _ _⟩,λ_ _ _ _ h=>⟨bp0 _ _ _,h⟩,λ_ _ _ a b=>⟨bp0 _ _ _,a,b⟩,λ_ _ _ _ a b c=>⟨bp0 _ _ _,a,b,c⟩,λ_ _ _ e _ h=>⟨⟨mx,e⟩,h⟩,λ_ _ _ _ i _ h=>⟨⟨i,mx⟩,h⟩⟩
end
end Go.Proofs.YtfkcaldjphakpaaGreatDoor
