/- Terms by their sides -/
import Derived.Test.YtfkcaldjphakpaaGreatDoorM07
import Derived.Test.YtfkcaldjphakpaaGreatDoorM13
set_option maxHeartbeats 32000000
set_option maxRecDepth 100000
namespace Go.Proofs.YtfkcaldjphakpaaGreatDoor
open Go.RowKit Go.Proofs.Tryz
variable{next:Act->World->Prop}{t:Ast}{fit:Bool}{S S' s:mu}{Q:Exit->Act->World->Prop}{a a' at' er k k' n n' op pl want z z':Int}{id j lo rb:Nat}{nv:Value}{w:World}
section
def j6:Ast->Pay
 | .leaf p=>p
 | .un p _=>p
 | .bin p _ _=>p
 | .tri p _ _ _=>p
def qF:Ast->List Ast
 | .leaf _=>[]
 | .un _ x=>[x]
 | .bin _ x y=>[x,y]
 | .tri _ x y z=>[x,y,z]
def SidesAt(lo:Nat)(w:World)(sv:Value)(ts:List Ast):Prop:=
 (ts=[]/\sv=.slice none 0 0)\/∃g,sv=.slice (some ⟨g,0,none⟩) ts.length ts.length/\lo<g/\g<w.heap.size/\∀(j:Nat) (x:Ast),ts[j]?=some x->∃b,w.cell? ⟨g,j,none⟩=some (.pointer (some ⟨b,0,none⟩))/\IsNode lo w (.pointer (some ⟨b,0,none⟩)) x
theorem IsNode.parts{v:Value}(h:IsNode lo w v t):∃b sv,v=.pointer (some ⟨b,0,none⟩)/\NodeAt lo w b (j6 t) sv/\SidesAt lo w sv (qF t):=by
 cases t with
 | leaf p=>obtain⟨b,rfl,h⟩:=h;exact⟨b,_,rfl,h,.inl ⟨rfl,rfl⟩⟩
 | un p x=>
  obtain⟨b,g,q,rfl,h,l,i,m,e⟩:=h;refine⟨b,_,rfl,h,.inr ⟨g,rfl,l,i,λj y c=>?_⟩⟩
  match j,c with
  | 0,c=>
   obtain rfl:x=y:=by simpa [qF]using c
   obtain⟨b1,rfl⟩:=e.ptr;exact⟨b1,m,e⟩
  | j+1,c=>simp[qF]at c
 | bin p x y=>
  obtain⟨b,g,q,A,rfl,h,l,i,m,o,e,f⟩:=h;refine⟨b,_,rfl,h,.inr ⟨g,rfl,l,i,λj z c=>?_⟩⟩
  match j,c with
  | 0,c=>
   obtain rfl:x=z:=by simpa [qF]using c
   obtain⟨b1,rfl⟩:=e.ptr;exact⟨b1,m,e⟩
  | 1,c=>
   obtain rfl:y=z:=by simpa [qF]using c
   obtain⟨b1,rfl⟩:=f.ptr;exact⟨b1,o,f⟩
  | j+2,c=>simp[qF]at c
 | tri p x y z=>
  obtain⟨b,g,q,A,C,rfl,h,l,i,m,o,B,e,f,r⟩:=h;refine⟨b,_,rfl,h,.inr ⟨g,rfl,l,i,λj u c=>?_⟩⟩
  match j,c with
  | 0,c=>
   obtain rfl:x=u:=by simpa [qF]using c
   obtain⟨b1,rfl⟩:=e.ptr;exact⟨b1,m,e⟩
  | 1,c=>
   obtain rfl:y=u:=by simpa [qF]using c
   obtain⟨b1,rfl⟩:=f.ptr;exact⟨b1,o,f⟩
  | 2,c=>
   obtain rfl:z=u:=by simpa [qF]using c
   obtain⟨b1,rfl⟩:=r.ptr;exact⟨b1,B,r⟩
  | j+3,c=>simp[qF]at c
theorem SidesAt.any{e:Value}{ts:List Ast}(h:SidesAt lo w e ts):∃a,e=.slice a ts.length ts.length/\∀(j:Nat) (x:Ast),ts[j]?=some x->∃g b,a=some ⟨g,0,none⟩/\lo<g/\g<w.heap.size/\Xc w g j (.pointer (some ⟨b,0,none⟩))/\IsNode lo w (.pointer (some ⟨b,0,none⟩)) x:=by
 rcases h with⟨rfl,rfl⟩|⟨g,rfl,o,m,l⟩
 ·exact⟨none,rfl,λj x c=>by simp at c⟩
 ·exact⟨some ⟨g,0,none⟩,rfl,λj x c=>by obtain⟨b,i,f⟩:=l j x c;exact⟨g,b,rfl,o,m,i,f⟩⟩
theorem qi8(t:Ast):(qF t).length<=3:=by cases t<;>simp[qF]
inductive CRes where
 | ok (c:Int)
 | err (pl:Int)
def dem(want pl:Int):List CRes->Bool->Option Int
 | [],fit=>if fit then none else some pl
 | .err q::_,_=>some q
 | .ok c::t,fit=>dem want pl t (fit&&(c==want||c==0))
def zm(want pl c:Int)(rs:List CRes):CRes:=match dem want pl rs true with
 | none=>.ok c
 | some q=>.err q
def zk(pl:Int):CRes->CRes->CRes
 | .err q,_=>.err q
 | .ok _,.err q=>.err q
 | .ok l,.ok r=>if(l != r&&l != 0&&r != 0)=true then .err pl else .ok 3
def qK(op pl:Int)(rs:List CRes):CRes:=
 if op==0 then .ok 0 else if op==1 then .ok 1 else if op==2 then .ok 2
 else if op==5||op==6||op==7 then zm 3 pl 3 rs
 else if op==10||op==11||op==12||op==13||op==20 then zm 1 pl 3 rs
 else if op==14||op==15||op==16||op==17||op==18||op==19 then zm 1 pl 1 rs
 else if op==8||op==9 then(match rs with
  | [a,b]=>zk pl a b
  | _=>.ok 3)
 else .ok 3
def qv:Ast->CRes
 | .leaf p=>qK p.op p.place []
 | .un p x=>qK p.op p.place [qv x]
 | .bin p x y=>qK p.op p.place [qv x,qv y]
 | .tri p x y z=>qK p.op p.place [qv x,qv y,qv z]
theorem ye(t:Ast):qv t=qK (j6 t).op (j6 t).place ((qF t).map qv):=by cases t<;>rfl
def WfA:Ast->Prop
 | .leaf p=>¬p.op=8/\¬p.op=9
 | .un p x=>(¬p.op=8/\¬p.op=9)/\WfA x
 | .bin _ x y=>WfA x/\WfA y
 | .tri p x y z=>(¬p.op=8/\¬p.op=9)/\WfA x/\WfA y/\WfA z
theorem WfA.side{x:Ast}(h:WfA t)(b:x∈qF t):WfA x:=by
 cases t with
 | leaf p=>simp[qF]at b
 | un p y=>simp[qF]at b;subst b;exact h.2
 | bin p y z=>simp[qF]at b;rcases b with rfl|rfl;exact h.1;exact h.2
 | tri p y z u=>simp[qF]at b;rcases b with rfl|rfl|rfl;exact h.2.1;exact h.2.2.1;exact h.2.2.2
def vey(w:World)(r:CRes)(e:Ending)(w':World):Prop:=
 Below w.heap.size w w'/\match r with
 | .ok c=>e=.returned (.int .i64 c)
 | .err pl=>e=qU 4 pl
def pL(lo:Nat)(t:Ast):Prop:=∀(w:World) (v:Value),IsNode lo w v t->Calls prog 104 #[v] w (vey w (qv t))
theorem vfp{q:Int}{b:List CRes}(h:b[j]?=some (.err q)):dem want pl (b.drop j) fit=some q:=by
 obtain⟨c,e⟩:=au.1 h;rw[ce c,e];rfl
theorem viy{c:Int}{b:List CRes}(h:b[j]?=some (.ok c)):dem want pl (b.drop j) fit=dem want pl (b.drop (j+1)) (fit&&(c==want||c==0)):=by
 obtain⟨e,f⟩:=au.1 h;rw[ce e,f];rfl
theorem vfo{b:List CRes}(h:b.length<=j):dem want pl (b.drop j) fit=if fit then none else some pl:=by
 rw[di h];rfl
end
section
def qsc(w:World)(r:Option Int)(e:Ending)(w':World):Prop:=Below w.heap.size w w'/\match r with
 | none=>e=.returned (.tuple #[])
 | some q=>e=qU 4 q
theorem qpy(lo:Nat)(t:Ast)(f:∀x∈qF t,pL lo x)(want:Int)(w:World)(v:Value)(h:IsNode lo w v t):
  nz 148 #[v,.int .i64 want] w (qsc w (dem want (j6 t).place ((qF t).map qv) true)):=by
 obtain⟨R,D⟩:∃r,dem want (j6 t).place ((qF t).map qv) true=r:=⟨_,rfl⟩;rw[D];have O:=qd D;obtain⟨b,sv,rfl,F5,M⟩:=h.parts;obtain⟨a,rfl,K⟩:=M.any;have W:=qi8 t;obtain⟨S6,K6,c0,L,c2,Z,c4,Y,X⟩:=F5;obtain⟨n,C⟩:∃n,(qF t).length=n:=⟨_,rfl⟩;rw[C]at c2 W;have P:=qd C;have HS:=qd K;have HC:=qd f;obtain⟨pl,N⟩:∃pl,(j6 t).place=pl:=⟨_,rfl⟩;rw[N]at L O;clear D M h c0 Z c4 Y X C K f N;go_enter func148,ntmps148
 go_wp2_with fail
 go_loopw [4,13] (λfit i wr=>∃(j:Nat) (m:Bool),j<=n/\i=.int .i64 j/\fit=.bool m/\Hid (R=dem want pl (((qF t).map qv).drop j) m)/\Xb w wr) (λ_ i _=>n - (intOf i).toNat)
 case atStart=>exact⟨0,true,bj _,rfl,rfl,qd (by rw[db,q9 O]),nw⟩
 case round=>
  obtain⟨j,m,hj,rfl,rfl,u,o⟩:=hrel;have d1:=(o.cell (p:=⟨b,1,none⟩) K6).trans L
  by_cases A0:j<n
  ·obtain⟨x,A⟩:∃x,(qF t)[j]?=some x:=⟨_,ag (by rw[q9 P];exact A0)⟩
   obtain⟨g,bx,rfl,dJ,P5,H,I⟩:=q9 HS j x A;have dx:=(o.cell (p:=⟨g,j,none⟩) P5).trans H;have G:x∈qF t:=ch A;have J:=qd (I.kept (Kept.of_below o));have B:((qF t).map qv)[j]?=some (qv x):=by rw[dd,A];rfl
   have T:=qd (HC x G);clear A I H G
   cases O5:qv x with
   | err q=>
    have l:Hid (R=some q):=qd (by rw[q9 u,vfp (by rw[B,O5])]);have E:=qd O5;clear u B O5
    go_wp2_with(go_at_call 104;refine(T _ _ J).mono ?_;rintro e U⟨F,y⟩;rw[q9 E]at y;subst y;simp only[qU])
    rw[q9 l];exact⟨rfl,qf o F,rfl⟩
   | ok c=>
    have l:Hid (R=dem want pl (((qF t).map qv).drop (j+1)) (m&&(c==want||c==0))):=qd (by rw[q9 u,viy (by rw[B,O5])]);have E:=qd O5;clear u B O5;cases m<;>cases W9:(c==want)<;>cases U0:(c==0)
    all_goals
     rw[W9,U0]at l;simp only[ig,fj,Bool.or_true,gs,Bool.or_self,Bool.and_self]at l
     go_wp2_with(go_at_call 104;refine(T _ _ J).mono ?_;rintro e U⟨F,y⟩;rw[q9 E]at y;subst y)
     go_roundw
     case rel=>exact⟨j+1,_,mw,by go_num,rfl,l,qf o F⟩
     case measure=>simp[intOf];omega
  ·have l:Hid (R=if m then none else some pl):=qd (by rw[q9 u,vfo (by rw[ep,q9 P];omega)])
   clear u;cases m
   ·go_wp2_with fail
    rw[q9 l];exact⟨rfl,o,rfl⟩
   ·go_wp2_with fail
    go_end0
    rw[q9 l];exact⟨o,rfl⟩
end
section
def qs9:CRes->Option Int
 | .err q=>some q
 | .ok c=>if(c != 3&&c != 0)=true then some 0 else none
end
section
def jF(op:Int)(x y:V):V:=
 if op=5 then xP x else if op=6 then qg3 x y else if op=7 then orV x y else if op=8 then eqV x y else if op=9 then xP (eqV x y)
 else if op=12 then yo y x else if op=10 then yo x y else if op=13 then leV y x else if op=11 then leV x y
 else if op=14 then qiq (iV 0) x else if op=16 then qiq x y else if op=15 then qrs (iV 0) x else if op=17 then qrs x y
 else if op=18 then qir x y else if op=19 then qq0 x y else bV (x.kind==0)
def zj(op:Int)(x y r:V):Prop:=∀w:World,Calls prog 110 #[.int .i64 op,vV x,vV y] w λe w'=>e=.returned (vV r)/\Below w.heap.size w w'
theorem kH{n:Nat}{a:Act}(h:Q (.exit n) a w):Exit.then next Q (.exit n) a w:=h
theorem jW{n:Nat}{a:Act}(b:(n==id)=false)(h:Q (.exit n) a w):Exit.inBlock id Q (.exit n) a w:=by
 have c:¬n=id:=by simpa using b
 simp only[Exit.inBlock,c,if_false];exact h
theorem zQ{a:Act}(h:Q .normal a w):Exit.inBlock id Q (.exit id) a w:=by
 simp only[Exit.inBlock,if_true];exact h
theorem jQ{a:Act}(h:next a w):Exit.then next Q .normal a w:=h
theorem veg:Rng 0:=⟨nh,nh⟩
theorem xk{p:Prop}(h:p:=by
  intro w
  conv=>arg 3;simp only[vV]
  go_enter func110,ntmps110
  repeat ((fail_if_success (with_reducible refine wp_exit ?_));go_step)
  with_reducible refine wp_exit ?_
  repeat (first|(with_reducible refine kH ?_)|(with_reducible refine zQ ?_)|((with_reducible refine jW ?hne ?_);(case hne=>rfl)))
  with_reducible refine jQ ?_
  go_wp2_with((first|go_at_call 157|go_at_call 106|go_at_call 154|go_at_call 155|go_at_call 158|go_at_call 107|go_at_call 159|go_at_call 160|go_at_call 161|go_at_call 162);refine(CON _).mono ?_;rintro e w1⟨rfl,A1⟩;obtain⟨D5,F6⟩:=qj A1;have B9:w.heap.size+2<w1.heap.size:=(by have:=A1.size;simp at this;omega);simp only[vV])
  refine ak (by simp[go_sem,D5]<;>rfl) rfl ⟨rfl, ?_⟩
  exact((((qf (jS _ _ _ _) A1).setCell my _).setCell my _).setCell my _)):p:=h
end
section
theorem vby(t:Tk)(a z:Nat):∃k a' z' S n,rTk t a z=.agg #[.int .i64 k,.int .i64 a',.int .i64 z',.string S,.int .i64 n]:=by
 unfold rTk
 split<;>exact⟨_,_,_,_,_,rfl⟩
theorem vhi(a z:Nat):rTk (qh 0) a z=.agg #[.int .i64 0,.int .i64 a,.int .i64 z,.string ⟨#[]⟩,.int .i64 0]:=by
 simp[rTk,rK,rS,kwT,qh,rtV];rfl
theorem va8(s:mu)(f:s.size<=200)(k:Nat)(c:k<s.size):∃(K:Nat) (b d q:Bool),qa9 (s[k].toNat:Int)=b/\qah (s[k].toNat:Int)=d/\((s[k].toNat:Int)==39)=q/\(∀w,nz K #[.string s,.int .i64 k] w λe w'=>e=.returned (rTk (qX (s.data.toList.drop k)) k (k+zN (s.data.toList.drop k)))/\Xb w w') /\
  (K=182/\b=true/\d=false\/K=256/\b=false/\d=true\/K=257/\b=false/\d=false/\q=true\/K=258/\b=false/\d=false/\q=false):=by
 have hd:s.data.toList.drop k=s[k]::s.data.toList.drop (k+1):=by
  rw[ce (by rw[qr];exact c),qy s k c]
 have h:qX (s.data.toList.drop k)=if yd s[k] then vU (s.data.toList.drop k) else if jc s[k] then xt (s.data.toList.drop k) else if s[k]==39 then vG (s.data.toList.drop k) else qh (xm (s.data.toList.drop k)):=by rw[hd];rfl
 have g:zN (s.data.toList.drop k)=if yd s[k] then qx (s.data.toList.drop k) else if jc s[k] then qw jc (s.data.toList.drop k) else if s[k]==39 then xM (s.data.toList.drop k) else yf (s.data.toList.drop k):=by rw[hd];rfl
 rw[h,g]
 cases hb:yd s[k] with
 | true=>exact⟨_,_,_,_,hb,(ix.2 λe=>by unfold qah at e;unfold yd qa9 at hb;simp at hb e;omega),rfl,qi6 s f k c hb,.inl ⟨rfl,rfl,rfl⟩⟩
 | false=>
  cases hg:jc s[k] with
  | true=>exact⟨_,_,_,_,hb,hg,rfl,qkw s f k c,.inr (.inl ⟨rfl,rfl,rfl⟩)⟩
  | false=>
   by_cases h39:s[k]=39
   ·rw[show(s[k]==39)=true by rw[h39];rfl]
    exact⟨_,_,_,_,hb,hg,by rw[h39];decide,qwt s f k c,.inr (.inr (.inl ⟨rfl,rfl,rfl,rfl⟩))⟩
   ·rw[show(s[k]==39)=false by simpa using h39]
    exact⟨_,_,_,_,hb,hg,ae.2 λe=>h39 (mc.1 (by show s[k].toNat=39;omega)),qwq s f k c,.inr (.inr (.inr ⟨rfl,rfl,rfl,rfl⟩))⟩
theorem qwd(s:mu)(J:s.size<=200)(p:Nat)(M:p<=s.size)(w:World):
  nz 213 #[.string s,.int .i64 p] w λe w'=>e=.returned (rTk (qJ s.data.toList p) (qN s.data.toList p) (qZ s.data.toList p))/\Xb w w':=by
 have P:=qr s;obtain⟨z,o⟩:∃z,qN s.data.toList p=z:=⟨_,rfl⟩;have F:z=qw spU (s.data.toList.drop p)+p:=by rw[←o];unfold qN;omega
 obtain⟨R,r⟩:∃R,rTk (qJ s.data.toList p) (qN s.data.toList p) (qZ s.data.toList p)=R:=⟨_,rfl⟩
 have x:Hid (z=s.size->R=.agg #[.int .i64 0,.int .i64 s.size,.int .i64 s.size,.string ⟨#[]⟩,.int .i64 0]):=qd λh=>by
  rw[←r];unfold qJ qZ;rw[o,aj mw,aj mw,P,h];exact vhi _ _
 have u:Hid (z<s.size->R=rTk (qX (s.data.toList.drop z)) z (z+zN (s.data.toList.drop z))):=qd λh=>by
  rw[←r];unfold qJ qZ;rw[o,bh mw,bh mw]
 rw[r];have B:=qd F;clear r o F;go_enter func213,ntmps213
 go_wp2_with fail
 go_loop [1] (λi=>∃k:Nat,p<=k/\k<=s.size/\i=.int .i64 k/\Hid (z=qw spU (s.data.toList.drop k)+k)) (λi=>s.size - (intOf i).toNat)
 case atStart=>exact⟨p,nt,M,rfl,B⟩
 case round=>
  obtain⟨k,lZ,hk,rfl,g⟩:=hrel
  by_cases aG:∃l:k<s.size,spU s[k]=true
  ·obtain⟨l,c⟩:=aG
   have G:=vr spU s.data.toList k mw c;have X:Hid (z=qw spU (s.data.toList.drop (k+1))+(k+1)):=qd (by rw[q9 g,G];omega)
   have f:(s[k].toNat:Int)=32\/(s[k].toNat:Int)=9\/(s[k].toNat:Int)=10:=by
    unfold spU spB at c;simpa [or_assoc]using c
   clear G g c x u;rcases f with f|f|f
   all_goals
    go_wp2_with fail
    go_round
    case rel=>exact⟨k+1,mw,mw,by go_num,X⟩
    case measure=>simp[intOf];omega
  ·have I:z=k:=by
    by_cases l:k<s.size
    ·have c:spU s[k]=false:=by cases c:spU s[k] with|false=>rfl|true=>exact absurd ⟨l,c⟩ aG
     have:=vH spU s.data.toList k mw c;rw[q9 g,this];omega
    ·have:=vN spU s.data.toList k mw
     rw[q9 g,this];omega
   by_cases l:k<s.size
   ·have m:=q9 u mw
    rw[I]at m;have c:spU s[k]=false:=by cases c:spU s[k] with|false=>rfl|true=>exact absurd ⟨l,c⟩ aG
    have O:((s[k].toNat:Int)==32)=false/\((s[k].toNat:Int)==9)=false/\((s[k].toNat:Int)==10)=false:=by
     unfold spU spB at c;simpa [and_assoc]using c
    obtain⟨n1,n2,n3⟩:=O;have N:((k:Int)==(s.size:Int))=false:=ae.2 mw;obtain⟨q1,q2,q3,q4,q5,C⟩:=vby (qX (s.data.toList.drop k)) k (k+zN (s.data.toList.drop k));obtain⟨K,b,d,q,D,hd,E,y,f⟩:=va8 s J k l;rw[C]at m y;have W:=qd D;have U:=qd hd;have Y:=qd E;have y:=qd y;clear D hd E C c aG g x u B;rcases f with⟨rfl,rfl,rfl⟩|⟨rfl,rfl,rfl⟩|⟨rfl,rfl,rfl,rfl⟩|⟨rfl,rfl,rfl,rfl⟩
    all_goals
     go_wp2_with(first|(go_at_call 181;refine(j8 _ _).mono ?_;rintro e w'⟨rfl,rfl⟩;rw[q9 W])|(go_at_call 230;refine(yt _ _).mono ?_;rintro e w'⟨rfl,rfl⟩;rw[q9 U];have L:=q9 Y)|((first|go_at_call 182|go_at_call 256|go_at_call 257|go_at_call 258);refine(y _).mono ?_;rintro e H⟨rfl,A⟩;obtain⟨f,hf⟩:=qj A;have B9:=A.size;have Z:=qd A;clear A;have c0:∀i,H.cell? ⟨w.heap.size,i,none⟩=(#[.int .i64 0,.int .i64 0,.int .i64 0,.string ⟨#[]⟩,.int .i64 0]:Array Value)[i]?:=(λi=>(f _ i mx).trans mx)))
     refine ak (by simp[go_sem,c0]<;>rfl) rfl ⟨?_, ?_⟩
     all_goals go_light
     ·first|rfl|(rw[m])
     ·repeat' (first|exact qV Z|refine Below.setCell ?_ mx _)
   ·have T:k=s.size:=mw
    have m:=q9 x mw;clear g aG x u B;subst T
    go_wp2_with fail
    refine nx ⟨?_, ?_⟩
    all_goals go_light
    ·first|rfl|(rw[m])
    ·repeat' (first|exact(nw).alloc nt _|refine Below.setCell ?_ mx _)
end
section
structure TrC(w:World)(rb:Nat)(nv:Value)(s:ByteArray)(k a z:Int)(S:ByteArray)(n op er at':Int):Prop where
 lt:rb<w.heap.size
 c0:w.cell? ⟨rb,0,none⟩=some nv
 c1:w.cell? ⟨rb,1,none⟩=some (.string s)
 c2:w.cell? ⟨rb,2,none⟩=some (.int .i64 k)
 c3:w.cell? ⟨rb,3,none⟩=some (.int .i64 a)
 c4:w.cell? ⟨rb,4,none⟩=some (.int .i64 z)
 c5:w.cell? ⟨rb,5,none⟩=some (.string S)
 c6:w.cell? ⟨rb,6,none⟩=some (.int .i64 n)
 c7:w.cell? ⟨rb,7,none⟩=some (.int .i64 op)
 c8:w.cell? ⟨rb,8,none⟩=some (.int .i64 er)
 c9:w.cell? ⟨rb,9,none⟩=some (.int .i64 at')
 fz:∀j,w.frozen? ⟨rb,j,none⟩=false
theorem ku(h:TrC w rb nv s k a z S n op er at')(kind:Int)(X:mu):
  nz 215 #[.pointer (some ⟨rb,0,none⟩),.int .i64 kind,.string X] w λe w'=>e=.returned (.bool (k==kind&&(S.toList==X.toList)))/\w'=w:=by
 obtain⟨lt,c0,i,g,f,c4,c,b,c7,c8,c9,fz⟩:=h;cases hk:(k==kind)
 all_goals
  go_enter func215,ntmps215
  go_wp2_with fail
  all_goals(go_ret;exact⟨rfl,rfl⟩)
theorem yP(h:TrC w rb nv s k a z S n op 0 at')(er pl:Int):
  nz 174 #[.pointer (some ⟨rb,0,none⟩),.int .i64 er,.int .i64 pl] w λe w'=>e=.returned (.tuple #[])/\TrC w' rb nv s 1 a 0 ⟨#[]⟩ 0 op er pl/\Kept rb w w':=by
 obtain⟨lt,c0,i,g,f,c4,c,b,c7,c8,c9,fz⟩:=h;go_enter func174,ntmps174
 go_wp2_with fail
 go_end0
 refine⟨rfl,⟨by simpa using lt, ?_, ?_, ?_, ?_, ?_, ?_, ?_, ?_, ?_, ?_,λj=>?_⟩,(((((((Kept.refl rb w).setCell 8 _).setCell 9 _).setCell 2 _).setCell 3 _).setCell 4 _).setCell 5 _).setCell 6 _⟩
 all_goals simp[go_sem,c0,i,g,f,c4,c,b,c7,c8,c9,fz]
theorem qcd(h:TrC w rb nv s k a z S n op er at')(c:er≠0)(b pl:Int):
  nz 174 #[.pointer (some ⟨rb,0,none⟩),.int .i64 b,.int .i64 pl] w λe w'=>e=.returned (.tuple #[])/\TrC w' rb nv s 1 a 0 ⟨#[]⟩ 0 op er at'/\Kept rb w w':=by
 obtain⟨lt,c0,o,m,l,c4,i,g,c7,c8,c9,fz⟩:=h;have f:(er==0)=false:=ae.2 c;clear c;go_enter func174,ntmps174
 go_wp2_with fail
 go_end0
 refine⟨rfl,⟨by simpa using lt, ?_, ?_, ?_, ?_, ?_, ?_, ?_, ?_, ?_, ?_,λj=>?_⟩,(((((Kept.refl rb w).setCell 2 _).setCell 3 _).setCell 4 _).setCell 5 _).setCell 6 _⟩
 all_goals simp[go_sem,c0,o,m,l,c4,i,g,c7,c8,c9,fz]
end
section
theorem TrC.below{w':World}(h:TrC w rb nv s k a z S n op er at')(c:Xb w w'):TrC w' rb nv s k a z S n op er at':=by
 obtain⟨lt,c0,m,l,i,c4,g,f,c7,c8,c9,fz⟩:=h;obtain⟨b,e⟩:=qj c;exact⟨bg lt c.size,(b _ _ lt).trans c0,(b _ _ lt).trans m,(b _ _ lt).trans l,(b _ _ lt).trans i,(b _ _ lt).trans c4,(b _ _ lt).trans g,(b _ _ lt).trans f,(b _ _ lt).trans c7,(b _ _ lt).trans c8,(b _ _ lt).trans c9,λj=>(e _ _ lt).trans (fz j)⟩
theorem TrC.alloc(h:TrC w rb nv s k a z S n op er at')(o:Obj):TrC (w.alloc o) rb nv s k a z S n op er at':=h.below (nw.alloc nt o)
theorem Kept.far{a:World}(h:Kept rb a w){p:Addr}(e:a.heap.size<=p.block)(u:Value):Kept rb a (w.setCell p u):=by
 refine⟨h.os,h.tape,h.output,by have:=h.size;simp;omega,λk c b=>?_⟩;rw[bo w p u k mw];exact h.block k c b
theorem Kept.more{a:World}(h:Kept rb a w)(o:Obj):Kept rb a (w.alloc o):=h.trans (Kept.of_below (nw.alloc nt o))
theorem xR{p:Nat}(h:TrC w rb nv s k a p S n op 0 at')(K:s.size<=200)(L:p<=s.size)
  (I:rTk (qJ s.data.toList p) (qN s.data.toList p) (qZ s.data.toList p)=.agg #[.int .i64 k',.int .i64 a',.int .i64 z',.string S',.int .i64 n']) :
  nz 172 #[.pointer (some ⟨rb,0,none⟩)] w λe w'=>e=.returned (.tuple #[])/\TrC w' rb nv s k' a' z' S' n' op 0 at'/\Kept rb w w':=by
 have H:=qd h;obtain⟨lt,c0,W,U,T,c4,R,P,c7,c8,c9,fz⟩:=h;have J:=qd (qwd s K p L);rw[I]at J;clear I;go_enter func172,ntmps172
 go_wp2_with fail
 go_region_with(go_at_call 213;refine(J _).mono ?_;rintro e g⟨rfl,f⟩;first|(have c:Xb w g:=((Below.refl w.heap.size w).drew).trans f;have E:=qd c;obtain⟨b,D,C,B,A,y,x,u,r,q,o,m⟩:=(q9 H).below c;clear f c)|(have c:Xb w g:=(((Below.refl w.heap.size w).alloc nt _).drew).trans (f.mono (by show _<=(w.alloc _).heap.size;simp));have E:=qd c;obtain⟨b,D,C,B,A,y,x,u,r,q,o,m⟩:=(q9 H).below c;obtain⟨G,F⟩:=qj f;have X:w.heap.size<g.heap.size:=(by have:=f.size;have e:(w.alloc (.cells #[.int .i64 0,.int .i64 0,.int .i64 0,.string ⟨#[]⟩,.int .i64 0] 235)).drew.heap.size=w.heap.size+1:=(by show(w.alloc _).heap.size=_;simp);omega);have O:∀i,g.cell? ⟨w.heap.size,i,none⟩=(#[.int .i64 0,.int .i64 0,.int .i64 0,.string ⟨#[]⟩,.int .i64 0]:Array Value)[i]?:=(λi=>(G _ i (by show _<(w.alloc _).heap.size;simp)).trans (by show(w.alloc _).cell? _=_;simp));have N:Xf g w.heap.size:=(λj=>(F _ j (by show _<(w.alloc _).heap.size;simp)).trans (by show(w.alloc _).frozen? _=_;simp));have l:¬rb=w.heap.size:=mw;have M:¬w.heap.size=rb:=mw;clear G F f c))
 all_goals(go_wp2_with fail)
 all_goals go_end0
 all_goals first
  | (
   have _q:=l;refine⟨rfl,⟨by simpa using b, ?_, ?_, ?_, ?_, ?_, ?_, ?_, ?_, ?_, ?_,λj=>?_⟩,((((((((((Kept.of_below E).far (p:=⟨w.heap.size,0,none⟩) nt _).far (p:=⟨w.heap.size,1,none⟩) nt _).far (p:=⟨w.heap.size,2,none⟩) nt _).far (p:=⟨w.heap.size,3,none⟩) nt _).far (p:=⟨w.heap.size,4,none⟩) nt _).setCell 2 _).setCell 3 _).setCell 4 _).setCell 5 _).setCell 6 _⟩
   all_goals simp[go_sem,D,C,B,A,y,x,u,r,q,o,m])
  | (
   refine⟨rfl,TrC.alloc ⟨by simpa using b, ?_, ?_, ?_, ?_, ?_, ?_, ?_, ?_, ?_, ?_,λj=>?_⟩ _,((((((Kept.of_below E).setCell 2 _).setCell 3 _).setCell 4 _).setCell 5 _).setCell 6 _).more _⟩
   all_goals simp[go_sem,D,C,B,A,y,x,u,r,q,o,m])
end
section
def qse(s:ByteArray)(p:Nat)(k a z:Int)(S:ByteArray)(n:Int):Prop:=rTk (qJ s.data.toList p) (qN s.data.toList p) (qZ s.data.toList p)=.agg #[.int .i64 k,.int .i64 a,.int .i64 z,.string S,.int .i64 n]
section
variable {w:World} {rb:Nat} {nv:Value} {s:mu} {k a z:Int} {p:Nat} {S:mu} {n op er at':Int}
theorem qnt(h:TrC w rb nv s k a p S n op 0 at')(l:s.size<=200)(m:p<=s.size)(i:qse s p k' a' z' S' n')(kind:Int)(X:mu)(f:k=kind)(g:(S.toList==X.toList)=true):
  nz 343 #[.pointer (some ⟨rb,0,none⟩),.int .i64 kind,.string X] w λe w'=>e=.returned (.tuple #[])/\TrC w' rb nv s k' a' z' S' n' op 0 at'/\Kept rb w w':=by
 have b:=ku h kind X;rw[g,f,ip,ig]at b;have I:=qd b;have o:=qd (xR h l m i);clear b h i g f;go_enter func343,ntmps343
 go_wp2_with(first|(go_at_call 215;refine I.mono ?_;rintro e u⟨rfl,rfl⟩)|(go_at_call 172;refine o.mono ?_;rintro e r⟨rfl,c⟩;have q:=qd c;clear c))
 refine ak (by simp[go_sem]) rfl ⟨rfl,q9 q⟩
theorem qfj(h:TrC w rb nv s k a z S n op 0 at')(kind:Int)(X:mu)(f:(k==kind&&(S.toList==X.toList))=false):
  nz 343 #[.pointer (some ⟨rb,0,none⟩),.int .i64 kind,.string X] w λe w'=>e=.returned (.tuple #[])/\TrC w' rb nv s 1 a 0 ⟨#[]⟩ 0 op 2 a/\Kept rb w w':=by
 have b:=ku h kind X;rw[f]at b;have I:=qd b;have i:=qd (yP h 2 a);obtain⟨lt,c0,x,u,r,c4,q,o,c7,c8,c9,fz⟩:=h;clear b f;go_enter func343,ntmps343
 go_wp2_with(first|(go_at_call 215;refine I.mono ?_;rintro e m⟨rfl,rfl⟩)|(go_at_call 174;refine i.mono ?_;rintro e l⟨rfl,c⟩;have g:=qd c;clear c))
 go_end0
 exact⟨rfl,q9 g⟩
theorem qhz(h:TrC w rb nv s 1 a z S n op er at')(g:er≠0)(kind:Int)(X:mu)(f:kind≠1):
  nz 343 #[.pointer (some ⟨rb,0,none⟩),.int .i64 kind,.string X] w λe w'=>e=.returned (.tuple #[])/\TrC w' rb nv s 1 a 0 ⟨#[]⟩ 0 op er at'/\Kept rb w w':=by
 have b:=ku h kind X;rw[show((1:Int)==kind)=false from ae.2 (λe=>f e.symm),ld]at b;have I:=qd b;have l:=qd (qcd h g 2 a);obtain⟨lt,c0,y,x,u,c4,r,q,c7,c8,c9,fz⟩:=h;clear b f g;go_enter func343,ntmps343
 go_wp2_with(first|(go_at_call 215;refine I.mono ?_;rintro e o⟨rfl,rfl⟩)|(go_at_call 174;refine l.mono ?_;rintro e m⟨rfl,c⟩;have i:=qd c;clear c))
 go_end0
 exact⟨rfl,q9 i⟩
end
end
end Go.Proofs.YtfkcaldjphakpaaGreatDoor
