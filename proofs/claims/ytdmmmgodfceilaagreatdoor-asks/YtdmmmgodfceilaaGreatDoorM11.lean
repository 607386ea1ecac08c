/- Patterns -/
import Derived.Test.YtdmmmgodfceilaaGreatDoorM05
import Derived.Deep.QuietTactic
import Derived.BigQuiet
import Derived.Deep.RegionHeld3
import Derived.Deep.DeepCutAuto
set_option maxHeartbeats 16000000
set_option maxRecDepth 100000
namespace Go.Proofs.YtdmmmgodfceilaaGreatDoor
open Go.RowKit Go.Proofs.Tryz
open Go renaming Value->Ap,World->Ao
open Go.Ending renaming returned->Ak
open Go.IntKind renaming i64->J
open Go.Obj renaming cells->Al
open Go.Value renaming agg->Ai,bool->Ah,int->I,slice->C,string->Y,tuple->Aj
open Option renaming none->O,some->G
open Or renaming inl->Am,inr->An
variable{a b n:Int}{e p:tu}{xs:List Ap}{B F base k size:Nat}{c:UInt8}{v:Ap}{w w':Ao}
structure Pc where
 A:Int
 c:UInt8
def pcV(p:Pc):Ap:=Ai #[I J p.A,I .u8 p.c.toNat]
def vL(c:UInt8):Pc:=if((c.toNat:Int)==37)=true then⟨2,0⟩ else if((c.toNat:Int)==95)=true then⟨1,0⟩ else⟨0,c⟩
theorem qjl(c:UInt8)(w:Ao):
  ut 237 #[I .u8 c.toNat] w (pcV (vL c)):=by
 unfold vL;cases h1:((c.toNat:Int)==37)
 .cases h2:((c.toNat:Int)==95)
  .simp only[dg,if_false]
   go_enter func237,ntmps237
   go_wp2
   refine tw ⟨rfl,uj.alloc ui _⟩
  simp only[dg,if_false,if_true];go_enter func237,ntmps237
  go_wp2
  refine tw ⟨rfl,uj.alloc ui _⟩
 simp only[if_true];go_enter func237,ntmps237
 go_wp2
 refine tw ⟨rfl,uj.alloc ui _⟩
def zJ(e:List UInt8):List UInt8->Option (List Pc)
 | []=>G []
 | [c]=>if e.head?=G c then O else G [vL c]
 | c::d::t=>if e.head?=G c then(zJ e t).map (⟨0,d⟩::·) else(zJ e (d::t)).map (vL c::·)
theorem qaw(h:p[k]?=G c)(f:¬e.head?=G c):zJ e (p.drop k)=(zJ e (p.drop (k+1))).map (vL c::·):=by
 obtain⟨g,i⟩:=aj.1 h;rw[cj g,i]
 cases hd:p.drop (k+1) with
 | nil=>show(if e.head?=G c then O else G [vL c])=_;rw[ak f];rfl
 | cons d t=>rw[zJ,ak f]
theorem qg3{d:UInt8}(h:p[k]?=G c)(f:e.head?=G c)(j:p[k+1]?=G d):zJ e (p.drop k)=(zJ e (p.drop (k+2))).map (⟨0,d⟩::·):=by
 obtain⟨g,i⟩:=aj.1 h;obtain⟨m,l⟩:=aj.1 j;rw[cj g,i,cj m,l,zJ,bo f]
theorem qcq(h:p[k]?=G c)(d:e.head?=G c)(i:p.length<=k+1):zJ e (p.drop k)=O:=by
 obtain⟨f,g⟩:=aj.1 h;rw[cj f,g,eh i,zJ,bo d]
theorem qg2(h:p.length<=k):zJ e (p.drop k)=G []:=by
 rw[eh h,zJ]
def xH(ps:List Pc):List Ap:=ps.flatMap λp=>[I J p.A,I .u8 p.c.toNat]
theorem qjk(ps:List Pc)(p:Pc):xH (ps++[p])=xH ps++[I J p.A,I .u8 p.c.toNat]:=by simp[xH]
theorem qst:(prog.info? 266).map (λi=>(i.zero,i.size,i.bytes))=G (G (Ai #[I J 0,I .u8 0]),2,16):=uh
def vik(w:Ao)(r:Option (List Pc))(e:Ending)(w':Ao):Prop:=
 Below w.1.size w w'/\match r with
 | none=>e=Ak (Aj #[C O 0 0,Ah false])
 | some ps=>∃v,e=Ak (Aj #[v,Ah true])/\w'.ownsRow w.1.size 266 2 v ps.length (xH ps)
theorem qE{e n:Nat}(h:w.ownsRow base e size v n xs)(i:Below B w w')(l:w.1.size<=B):w'.ownsRow base e size v n xs:=by
 refine⟨h.1, ?_⟩;rcases h.2 with f|⟨g,cap,cur,rfl,j,d,rest⟩;exact Am f;refine An ⟨g,cap,cur,rfl,j, ?_,rest⟩;rw[i.block g (uu ((cf.1 d).1))];exact d
theorem qnv{e n:Nat}(h:w.ownsRow base e size v n xs):∀k,v.ownBlock=G k->base<=k:=λk d=>(h.lt k d).1
theorem Below.grown{a:Ao}{row:Option Nat}(h:Below B a w)(d:w.grownBy w' row)(i:B<=w.1.size)(g:∀k,row=G k->B<=k):Below B a w':=
 ⟨d.os.trans h.os,d.tape.trans h.tape,d.output.trans h.output,bs h.size d.size,λk f=>(d.block k ub (λe=>uu (g k e.symm))).trans (h.block k f)⟩
theorem qg5{wr d w2:Ao}{e:Nat}{v':Ap}{ps:List Pc}{q:Pc}{o:Obj}(j:w2.ownsRow w.1.size e 2 v' (ps.length+1) (xH ps++[I J q.A,I .u8 q.c.toNat]))(l:(d.alloc o).grownBy w2 v.ownBlock)
  (i:d.ownsRow w.1.size e 2 v ps.length (xH ps)) (f:Xb w wr) (g:Xb wr d) :
  w2.ownsRow w.1.size e 2 v' (ps++[q]).length (xH (ps++[q]))/\Xb w w2:=by
 have r:=f.size;have m:=g.size;refine⟨by rw[qjk,ce];exact j, ?_⟩;exact Below.grown ((qg f g).alloc ub o) l ud (qnv i)
theorem qmo(p e:tq)(hp:p.size<=200)(w:Ao):
  ua 214 #[Y p,Y e] w (vik w (zJ e.data.toList p.data.toList)):=by
 obtain⟨R,Q⟩:∃r,zJ e.data.toList p.data.toList=r:=⟨_,rfl⟩;rw[Q];have W:=qd Q;obtain⟨K,L,M,D,E⟩:=info_parts qst;go_enter func214,ntmps214
 go_wp2
 go_loopw [6,7] (λv i wr=>∃(k:Nat) (ps:List Pc),k<=p.size/\ps.length<=k/\i=I J k/\Hid (R=(zJ e.data.toList (p.data.toList.drop k)).map (ps++·))/\wr.ownsRow w.1.size 266 2 v ps.length (xH ps)/\Xb w wr) (λ_ i _=>p.size - (intOf i).toNat)
 exact⟨0,[],bt _,bt _,rfl,qd (by rw[dw,q9 W];cases R<;>rfl),dy _ _ _ _,uj⟩;obtain⟨k,ps,hk,dM,rfl,A,C,t⟩:=hrel;have lV:=t.size
 by_cases A1:k<p.size
 .have bF:p.data.toList[k]?=G p[k]:=by rw[ag (by rw[qu];exact A1),qD p k A1]
  have plainCase:¬e.data.toList.head?=G p[k]->Hid (R=(zJ e.data.toList (p.data.toList.drop (k+1))).map ((ps++[vL p[k]])++·)):=λS=>qd (by rw[q9 A,qaw bF S];cases zJ e.data.toList (p.data.toList.drop (k+1))<;>simp)
  by_cases he:0<e.size
  .have hne:=qak he
   have N:e.data.toList.head?=G e[0]:=by
    have:=ag (l:=e.data.toList) (i:=0) (by rw[qu];exact he);rw[qD e 0 he]at this;rw[oq];exact this
   cases hx:(p[k]==e[0]) with
   | false=>
    have g:=plainCase (by rw[N];intro h;injection h with h;rw[h]at hx;simp at hx);have X:((p[k].toNat:Int)==(e[0].toNat:Int))=false:=by rw[ke];exact hx
    go_wp2
    go_quiet (fail)
    go_wp2_with(first|(go_at_call 237;refine(qjl p[k] _).mono ?_;rintro T x⟨rfl,H⟩;have s:Xb wr x:=(below_drewN (Below.refl _ wr) _).trans H;have Z:=s.size;have o:=qE C s ui;simp only[pcV])|(at_builtin;refine wpList_append_own _ rfl _ _ 260 rfl w.1.size 266 K (Ai #[I J 0,I .u8 0]) 2 16 underlying260 L M D E rfl ue _ _ _ rfl (o.alloc _) ⟨x.1.size,0,O⟩ 1 1 [I J (vL p[k]).A,I .u8 (vL p[k]).c.toNat] rfl rfl ?c1 ?c2 ?c3 ?c4 ?c5 ?_))
    case c1=>
     intro j u f
     match j,f with
     | 0,f=>simp at f;subst f;simp[Addr.add]
     | 1,f=>simp at f;subst f;simp[Addr.add]
     | j+2,f=>simp at f
    case c2=>intro u m;simp at m;rcases m with rfl|rfl<;>rfl
    case c3=>unfold maxLen;omega
    case c4=>omega
    case c5=>simp;omega
    intro v' w2 y z _;have R:=qg5 y z o t s
    go_wp2
    go_roundw
    case rel=>exact⟨k+1,_,ub,ud,by go_num,g,R.1,R.2⟩
    simp[intOf];omega
   | true=>
    have P:e.data.toList.head?=G p[k]:=by rw[N,ew.1 hx]
    have X:((p[k].toNat:Int)==(e[0].toNat:Int))=true:=by rw[ke];exact hx
    by_cases hl:k+1<p.size
    .have fP:p.data.toList[k+1]?=G p[k+1]:=by rw[ag (by rw[qu];exact hl),qD p (k+1) hl]
     have g:Hid (R=(zJ e.data.toList (p.data.toList.drop (k+2))).map ((ps++[⟨0,p[k+1]⟩])++·)):=qd (by rw[q9 A,qg3 bF P fP];cases zJ e.data.toList (p.data.toList.drop (k+2))<;>simp);have U6:(((k:Int)+1)==(p.size:Int))=false:=bh.2 ub
     go_wp2
     go_quiet (fail)
     have o:=qE C (below_drewN (Below.refl _ wr) nq) ui
     go_wp2_with(first|(at_builtin;refine wpList_append_own _ rfl _ _ 260 rfl w.1.size 266 K (Ai #[I J 0,I .u8 0]) 2 16 underlying260 L M D E rfl ue _ _ _ rfl (o.alloc _) ⟨wr.1.size,0,O⟩ 1 1 [I J 0,I .u8 p[k+1].toNat] rfl rfl ?c1 ?c2 ?c3 ?c4 ?c5 ?_))
     case c1=>
      intro j u f
      match j,f with
      | 0,f=>simp at f;subst f;simp[Addr.add];exact(ch (w:=wr.drewN nq) _ _ _ _ rfl).trans rfl
      | 1,f=>simp at f;subst f;simp[Addr.add];exact(ch (w:=wr.drewN nq) _ _ _ _ rfl).trans rfl
      | j+2,f=>simp at f
     case c2=>intro u m;simp at m;rcases m with rfl|rfl<;>rfl
     case c3=>unfold maxLen;omega
     case c4=>omega
     case c5=>simp;omega
     intro v' w2 y z _;have R:=qg5 (q:=⟨0,p[k+1]⟩) y z o t (below_drewN (Below.refl _ wr) nq)
     go_wp2
     go_roundw
     case rel=>exact⟨k+2,_,ub,ud,by go_num,g,R.1,R.2⟩
     simp[intOf];omega
    have g:Hid (R=O):=qd (by rw[q9 A,qcq bF P (by rw[qu];omega)];rfl)
    go_wp2
    go_quiet (fail)
    go_wp2
    go_ret2
    rw[q9 g];exact⟨below_drewN t _,rfl⟩
  have U:e=⟨#[]⟩:=by cases e with|mk d=>simp[ByteArray.size]at he;simp[he]
  subst U;have g:=plainCase uc
  go_wp2
  go_quiet (fail)
  go_wp2_with(first|(go_at_call 237;refine(qjl p[k] _).mono ?_;rintro T x⟨rfl,H⟩;have s:Xb wr x:=(below_drewN (Below.refl _ wr) _).trans H;have Z:=s.size;have o:=qE C s ui;simp only[pcV])|(at_builtin;refine wpList_append_own _ rfl _ _ 260 rfl w.1.size 266 K (Ai #[I J 0,I .u8 0]) 2 16 underlying260 L M D E rfl ue _ _ _ rfl (o.alloc _) ⟨x.1.size,0,O⟩ 1 1 [I J (vL p[k]).A,I .u8 (vL p[k]).c.toNat] rfl rfl ?c1 ?c2 ?c3 ?c4 ?c5 ?_))
  case c1=>
   intro j u f
   match j,f with
   | 0,f=>simp at f;subst f;simp[Addr.add]
   | 1,f=>simp at f;subst f;simp[Addr.add]
   | j+2,f=>simp at f
  case c2=>intro u m;simp at m;rcases m with rfl|rfl<;>rfl
  case c3=>unfold maxLen;omega
  case c4=>omega
  case c5=>simp;omega
  intro v' w2 y z _;have R:=qg5 y z o t s
  go_wp2
  go_roundw
  case rel=>exact⟨k+1,_,ub,ud,by go_num,g,R.1,R.2⟩
  simp[intOf];omega
 have g:Hid (R=G ps):=qd (by rw[q9 A,qg2 (by rw[qu];omega)];simp)
 go_wp2
 go_ret2
 rw[q9 g];exact⟨t,_,rfl,C⟩
theorem vbi(p e:tq)(hp:p.size<=200)(w:Ao):
  ua 314 #[Y p,Y e] w λf w'=>f=Ak (Ah (zJ e.data.toList p.data.toList).isSome)/\Xb w w':=by
 cases hc:zJ e.data.toList p.data.toList with
 | none=>
  have g:=qd hc;go_enter func314,ntmps314
  go_wp2_with(go_at_call 214;refine(qmo p e hp _).mono ?_;rintro f i⟨h,d⟩;rw[q9 g]at d;subst d)
  go_ret;exact⟨rfl,h⟩
 | some ps=>
  have g:=qd hc;go_enter func314,ntmps314
  go_wp2_with(go_at_call 214;refine(qmo p e hp _).mono ?_;rintro f i⟨h,d⟩;rw[q9 g]at d;obtain⟨v,rfl,j⟩:=d)
  go_ret;exact⟨rfl,h⟩
def xK(n:Int):Bool:=decide (-9223372036854775808<=n)&&decide (n<=9223372036854775807)
def Rng(n:Int):Prop:=-9223372036854775808<=n/\n<=9223372036854775807
def qkw(x y:V):V:=if jA x y&&xK (x.K+y.K) then iV (x.K+y.K) else nV
def quf(x y:V):V:=if jA x y&&xK (x.K - y.K) then iV (x.K - y.K) else nV
def qky(x y:V):V:=if jA x y&&xK (x.K * y.K) then iV (x.K * y.K) else nV
def qsh(x y:V):V:=if jA x y&&!(y.K==0)&&xK (x.K.tdiv y.K) then iV (x.K.tdiv y.K) else nV
theorem yD(h:xK n=true):wrap64 n=n:=by
 simp[xK]at h;unfold wrap64;omega
theorem vbz(f:Rng a)(d:Rng b):((decide (wrap64 (a+b)<a)) != (decide (b<0)))=!xK (a+b):=by
 unfold Rng at f d;rw[lw];simp[xK,wrap64];omega
theorem vgq(f:Rng a)(d:Rng b):((decide (a<wrap64 (a - b))) != (decide (b<0)))=!xK (a - b):=by
 unfold Rng at f d;rw[lw];simp[xK,wrap64];omega
theorem qrq(x y:V)(w:Ao)(g:F=182/\n=x.K+y.K/\(decide (wrap64 n<x.K) != decide (y.K<0))=!xK n\/F=183/\n=x.K - y.K/\(decide (x.K<wrap64 n) != decide (y.K<0))=!xK n):
  Calls prog F #[vV x,vV y] w λe w'=>e=Ak (vV (if jA x y&&xK n then iV n else nV))/\Xb w w':=by
 have q:Hid (xK n=true->wrap64 n=n):=qd yD;simp only[bne]at g;generalize xK n=f at *;cases hk:jA x y<;>cases f
 all_goals
  have r:=qd hk;clear hk;simp only[mn,iz,dg,if_true,if_false,ow,ry]at g |-
  conv=>arg 3;simp only[vV]
  rcases g with⟨rfl,rfl,m⟩|⟨rfl,rfl,m⟩
  all_goals
   first|go_enter func182,ntmps182|go_enter func183,ntmps183
   go_wp2_with(first|(go_at_call 176;refine be (yj x y _) λl i=>?_;rw[q9 r];obtain⟨s,u⟩:=qk i;have t:w.1.size+2<l.1.size:=(by have:=i.size;simp at this;omega))|(go_at_call 89;rw[q9 q (by trivial)];refine be (kF _ _) λw2 d=>?_;obtain⟨j,o⟩:=qk d;simp only[vV])|(go_at_call 175;refine be (jT _) λw2 d=>?_;obtain⟨j,o⟩:=qk d;simp only[vV]))
   refine bj (by simp[go_sem,j,s,t]<;>rfl) rfl ⟨rfl, ?_⟩;exact((((qg (qg (zk _ _ _ _) i) d).setCell ud _).setCell ud _).setCell ud _)
theorem qrk(x y:V)(f:Rng x.K)(d:Rng y.K)(w:Ao):ut 182 #[vV x,vV y] w (vV (qkw x y)):=qrq x y w (Am ⟨rfl,rfl,vbz f d⟩)
theorem qao(x y:V)(f:Rng x.K)(d:Rng y.K)(w:Ao):ut 183 #[vV x,vV y] w (vV (quf x y)):=qrq x y w (An ⟨rfl,rfl,vgq f d⟩)
theorem qcj{a:Ao}(h:Xb a w)(o:Obj):Xb a (w.alloc o):=h.alloc h.size o
theorem qrl(b:Bool)(w:Ao):
  ua 91 #[Ah b] w λe w'=>e=Ak (vV (bV b))/\w'=w.alloc (Al #[I J (bV b).A,I J (bV b).K,Y (BS (bV b).V)] 57):=by
 cases b
 all_goals
  go_enter func91,ntmps91
  go_wp2
  refine tw ⟨rfl,rfl⟩
abbrev vA(x:V):Array Ap:=#[I J x.A,I J x.K,Y (BS x.V)]
abbrev vZ:Array Ap:=#[I J 0,I J 0,Y ⟨#[]⟩]
def vs2(o p:Bool)(x y:V):V:=if decide (x=bV o)||decide (y=bV o) then bV o else if decide (x=bV p)&&decide (y=bV p) then bV p else nV
def qi3(x y:V):V:=if decide (x=bV false)||decide (y=bV false) then bV false else if decide (x=bV true)&&decide (y=bV true) then bV true else nV
def orV(x y:V):V:=if decide (x=bV true)||decide (y=bV true) then bV true else if decide (x=bV false)&&decide (y=bV false) then bV false else nV
theorem vef(w:Ao)(a b c:Array Ap)(s t u:TypeId){W:Ao}(h:((w.alloc (Al a s)).alloc (Al b t)).alloc (Al c u)=W):Xb w W/\W.1.size=w.1.size+3/\(∀i,W.cell? ⟨w.1.size,i,O⟩=a[i]?)/\(∀i,W.cell? ⟨w.1.size+1,i,O⟩=b[i]?)/\(∀i,W.cell? ⟨w.1.size+2,i,O⟩=c[i]?)/\Xf W (w.1.size+2):=by
 subst h;refine⟨((uj.alloc ui _).alloc uc _).alloc ug _,uc,λi=>?_,λi=>?_,λi=>ch _ _ _ _ uc,λi=>mu _ _ _ _ uc⟩;rw[bw _ _ _ ud,bw _ _ _ uc];simp;rw[bw _ _ _ uc];simp
theorem qgk{K:Nat}{o p:Bool}(hF:F=124/\K=91/\o=false/\p=true\/F=177/\K=91/\o=true/\p=false\/F=136/\K=69/\o=false/\p=true\/F=137/\K=69/\o=true/\p=false)(HK:∀b w,Calls prog K #[Ah b] w λe w'=>e=Ak (vV (bV b))/\Xb w w')(x y:V)(w:Ao):Calls prog F #[vV x,vV y] w λe w'=>e=Ak (vV (vs2 o p x y))/\Xb w w':=by
 have ex:=λw=>qmz x (bV o) w
 have ey:=λw=>qmz y (bV o) w
 have fx:=λw=>qmz x (bV p) w
 have fy:=λw=>qmz y (bV p) w
 have HT:=qd HK;simp only[vV]at ex ey fx fy HT;unfold vs2;generalize decide (x=bV o)=a at *;generalize decide (y=bV o)=b at *;generalize decide (x=bV p)=c at *;generalize decide (y=bV p)=d at *;generalize tX:((w.alloc (Al (vA x) 57)).alloc (Al (vA y) 57)).alloc (Al vZ 57)=W0;obtain⟨I8,V4,xc,yc,zc,zf⟩:=vef _ _ _ _ _ _ _ tX;have HW:=qd tX;have HB:Hid (Xb W0 W0.drew):=qd uj.drew;have SS:∀U,Xb W0 U->(∀i,U.cell? ⟨w.1.size,i,O⟩=(vA x)[i]?)/\∀i,U.cell? ⟨w.1.size+1,i,O⟩=(vA y)[i]?:=λU hU=>⟨λi=>((qk hU).1 _ i ub).trans (xc i),λi=>((qk hU).1 _ i ub).trans (yc i)⟩
 have RE:∀U,Xb W0 U->(∀i,U.cell? ⟨w.1.size+2,i,O⟩=vZ[i]?)/\(Xf U (w.1.size+2))/\w.1.size+2<U.1.size/\Xb w U:=λU hU=>⟨λi=>((qk hU).1 _ i ub).trans (zc i),λi=>((qk hU).2 _ i ub).trans (zf i),by have:=hU.size;omega,qg I8 hU⟩
 clear tX HK zc zf;obtain⟨z,h⟩:∃z,True/\a=true/\z=true\/a=false/\b=true/\z=true\/True/\a=false/\b=false/\z=false:=⟨a||b,by cases a<;>cases b<;>simp⟩;rcases h with⟨k0,rfl,hz⟩|⟨rfl,rfl,hz⟩|⟨k,rfl,rfl,hz⟩
 all_goals
  simp only[ti,mx,dg,if_true,if_false]
  conv=>arg 3;simp only[vV]
  rcases hF with⟨rfl,rfl,rfl,rfl⟩|⟨rfl,rfl,rfl,rfl⟩|⟨rfl,rfl,rfl,rfl⟩|⟨rfl,rfl,rfl,rfl⟩
 all_goals
  first|go_enter func124,ntmps124|go_enter func177,ntmps177|go_enter func136,ntmps136|go_enter func137,ntmps137
  go_wp2_with fail
  rw[q9 HW]
  go_cut [5] (λs5 wx=>s5=Ah z/\Hid (Xb W0 wx))
  case first=>
   first | (have _q := k0; first | go_region_with ((first | go_at_call 91 | go_at_call 69); refine (HT _ _).mono ?_; rintro e w1 ⟨rfl, A0⟩; replace HB := qd (qg HB A0); obtain ⟨U3, S5⟩ := SS _ HB; clear A0) | fail "no") | (go_region_held3 (fun W => (∀ i, W.cell? ⟨w.1.size, i, O⟩ = (vA x)[i]?) ∧ ∀ i, W.cell? ⟨w.1.size + 1, i, O⟩ = (vA y)[i]?) (first | with_reducible assumption | exact SS _ HB) (((first | go_at_call 91 | go_at_call 69); refine (HT _ _).mono ?_; rintro e w1 ⟨rfl, A0⟩; replace HB := qd (qg HB A0); have sJ := SS _ HB; clear A0))) | fail "no"
   all_goals(go_wp2_with fail;go_meet;exact⟨by rw[hz],HB⟩)
  case rest=>
   obtain⟨rfl,HC⟩:=hcut;subst hz
   first
   | (
    have _q:=k;replace HB:=qd HC.drew;obtain⟨U3,S5⟩:=SS _ HC;obtain⟨v,h⟩:∃v,True/\c=false/\v=false\/c=true/\d=false/\v=false\/c=true/\d=true/\v=true:=⟨c&&d,by cases c<;>cases d<;>simp⟩;rcases h with⟨k1,rfl,hv⟩|⟨rfl,rfl,hv⟩|⟨rfl,rfl,hv⟩
    all_goals
     go_wp2_with fail
     go_cut [15] (λs15 wx=>s15=Ah v/\Hid (Xb W0 wx))
     case first=>
      first | (have _q := k1; first | go_region_with ((first | go_at_call 91 | go_at_call 69); refine (HT _ _).mono ?_; rintro e w1 ⟨rfl, A0⟩; replace HB := qd (qg HB A0); obtain ⟨U3, S5⟩ := SS _ HB; clear A0) | fail "no") | (go_region_held3 (fun W => (∀ i, W.cell? ⟨w.1.size, i, O⟩ = (vA x)[i]?) ∧ ∀ i, W.cell? ⟨w.1.size + 1, i, O⟩ = (vA y)[i]?) (first | with_reducible assumption | exact SS _ HB) (((first | go_at_call 91 | go_at_call 69); refine (HT _ _).mono ?_; rintro e w1 ⟨rfl, A0⟩; replace HB := qd (qg HB A0); have sJ := SS _ HB; clear A0)))
      all_goals(go_wp2_with fail;go_meet;exact⟨by rw[hv],HB⟩)
     case rest=>
      clear HC U3 S5;obtain⟨rfl,HC⟩:=hcut;subst hv;obtain⟨z1,z2,z3,z4⟩:=RE _ HC;have HZ:=qd z4;clear z4 SS xc yc HB
      go_wp2_with(first|((first|go_at_call 91|go_at_call 69);refine(HT _ _).mono ?_;rintro e w2⟨rfl,A3⟩;replace HZ:=qd (qg HZ A3);obtain⟨z1,z2,z3,_⟩:=RE _ (qg HC A3);clear A3)|(go_at_call 175;refine(jT _).mono ?_;rintro e w2⟨rfl,A3⟩;replace HZ:=qd (qg HZ A3);obtain⟨z1,z2,z3,_⟩:=RE _ (qg HC A3);clear A3;simp only[vV]))
      refine bj (by simp[go_sem,z1]<;>first|rfl|exact⟨rfl,rfl,rfl⟩) rfl ⟨rfl, ?_⟩
      exact((HZ.setCell (by first|omega|(simp<;>omega)) _).setCell (by first|omega|(simp<;>omega)) _).setCell (by first|omega|(simp<;>omega)) _)
   | (
    obtain⟨z1,z2,z3,z4⟩:=RE _ HC;have HZ:=qd z4;clear z4 SS xc yc HB
    go_wp2_with(first|((first|go_at_call 91|go_at_call 69);refine(HT _ _).mono ?_;rintro e w2⟨rfl,A3⟩;replace HZ:=qd (qg HZ A3);obtain⟨z1,z2,z3,_⟩:=RE _ (qg HC A3);clear A3)|(go_at_call 175;refine(jT _).mono ?_;rintro e w2⟨rfl,A3⟩;replace HZ:=qd (qg HZ A3);obtain⟨z1,z2,z3,_⟩:=RE _ (qg HC A3);clear A3;simp only[vV]))
    refine bj (by simp[go_sem,z1]<;>first|rfl|exact⟨rfl,rfl,rfl⟩) rfl ⟨rfl, ?_⟩
    exact((HZ.setCell (by first|omega|(simp<;>omega)) _).setCell (by first|omega|(simp<;>omega)) _).setCell (by first|omega|(simp<;>omega)) _)
theorem vgy(x y:V)(w:Ao):ut 124 #[vV x,vV y] w (vV (qi3 x y)):=qgk (Am ⟨rfl,rfl,rfl,rfl⟩) zF x y w
theorem vn7(x y:V)(w:Ao):ut 177 #[vV x,vV y] w (vV (orV x y)):=qgk (An (Am ⟨rfl,rfl,rfl,rfl⟩)) zF x y w
theorem qug(p b:Int)(d:b≠0):∃r,p=b * p.tdiv b+r/\r.natAbs<b.natAbs:=by
 refine⟨p.tmod b,(Int.mul_tdiv_add_tmod p b).symm, ?_⟩;rw[Int.natAbs_tmod];exact Nat.mod_lt _ (Int.natAbs_pos.2 d)
theorem qfk(p b:Int)(g:b≠-1)(hp:Rng p):Rng (p.tdiv b):=by
 have h:=Int.natAbs_tdiv_le_natAbs p b;unfold Rng at hp |-
 by_cases hm:p=-9223372036854775808
 by_cases h1:b=1
 rw[h1,Int.tdiv_one];exact hp
 by_cases h0:b=0
 rw[h0,Int.tdiv_zero];omega;have f:=Int.natAbs_tdiv p b;have d:p.natAbs.div b.natAbs<=p.natAbs / 2:=Nat.div_le_div_left ub ub;omega;omega
theorem qi0(h:Rng n):wrap64 n=n:=by
 unfold Rng at h;unfold wrap64;omega
theorem vfu(n:Int):Rng (wrap64 n):=by
 unfold Rng wrap64;omega
theorem qg8(n:Int):xK n=true↔Rng n:=by simp[xK,Rng]
theorem vec(g:Rng a)(t:Rng b)(i:b≠0):
  ((a==-9223372036854775808&&b==-1)||!(wrap64 ((wrap64 (a * b)).tdiv b)==a))=!xK (a * b):=by
 cases hf:xK (a * b) with
 | true=>
  have d:=(qg8 _).1 hf;have e:wrap64 (a * b)=a * b:=qi0 d;have q:(a * b).tdiv b=a:=Int.mul_tdiv_cancel a i;rw[e,q,qi0 g]
  have:¬(a=-9223372036854775808/\b=-1):=by
   rintro⟨rfl,rfl⟩;unfold Rng at d;omega
  simp;intro f o;exact this ⟨f,o⟩
 | false=>
  have j:¬Rng (a * b):=λh=>by rw[(qg8 _).2 h]at hf;cases hf
  by_cases f:b=-1
  have:a=-9223372036854775808:=by
   subst f;unfold Rng at j g;omega
  simp[f,this];have s:=qfk (wrap64 (a * b)) b f (vfu _);rw[qi0 s];obtain⟨r,d,u⟩:=qug (wrap64 (a * b)) b i
  have:¬(wrap64 (a * b)).tdiv b=a:=by
   intro l;rw[l,Int.mul_comm b a]at d;generalize a * b=m at *;unfold Rng at *;unfold wrap64 at d;omega
  simp[this]
theorem qqh(d:Rng a):(a==-9223372036854775808&&b==-1)=!xK (a.tdiv b):=by
 by_cases h1:b=-1
 subst h1;have e:a.tdiv (-1)=-a:=by rw[Int.tdiv_neg,Int.tdiv_one]
 rw[e,lw];simp[xK];unfold Rng at d;omega;have:=(qg8 _).2 (qfk a b h1 d);rw[this];simp;intro _;exact h1
theorem qxc(a b:Int)(w:Ao):
  ua 216 #[I J a,I J b] w λe w'=>e=Ak (Ah (a==-9223372036854775808&&b==-1))/\w'=w:=by
 go_enter func216,ntmps216
 go_wp2
 all_goals(go_ret;exact⟨qY ug,rfl⟩)
theorem qj1{v:Bool}(h:(a==-9223372036854775808&&b==-1)=v)(w:Ao):
  ua 216 #[I J a,I J b] w λe w'=>e=Ak (Ah v)/\w'=w:=by
 rw[<-h];exact qxc a b w
theorem qpt(x y:V)(q:Rng x.K)(w:Ao):
  Calls prog 185 #[vV x,vV y] w λe w'=>e=Ak (vV (qsh x y))/\Xb w w':=by
 have i:=qqh (b:=y.K) q;unfold qsh;have s:Hid (xK (x.K.tdiv y.K)=true->wrap64 (x.K.tdiv y.K)=x.K.tdiv y.K):=qd yD;have j:(y.K==0)=false->¬y.K=0:=λh=>by simpa using h
 generalize xK (x.K.tdiv y.K)=f at *;have m:=qd i;clear i;cases hk:jA x y<;>cases h0:(y.K==0)<;>cases f
 all_goals
  have t:=qd hk
  try have j:=j h0
  clear hk;simp only[ow,ry,mn,iz,dg,if_true,if_false]at m |-
  conv=>arg 3;simp only[vV]
  go_enter func185,ntmps185
  go_wp2_with(first|(go_at_call 176;refine be (yj x y _) λo g=>?_;rw[q9 t];obtain⟨u,C⟩:=qk g;have z:w.1.size+2<o.1.size:=(by have:=g.size;simp at this;omega))|(go_at_call 216;refine be (qj1 m _) ?_;rintro A rfl)|(go_at_call 89;rw[q9 s (by trivial)];refine be (kF _ _) λw2 d=>?_;obtain⟨l,r⟩:=qk d;simp only[vV])|(go_at_call 175;refine be (jT _) λw2 d=>?_;obtain⟨l,r⟩:=qk d;simp only[vV]))
  refine bj (by simp[go_sem,l,u,z]<;>rfl) rfl ⟨rfl, ?_⟩;exact((((qg (qg (zk _ _ _ _) g) d).setCell ud _).setCell ud _).setCell ud _)
theorem qhy(x y:V)(z:Rng x.K)(u:Rng y.K)(w:Ao):
  Calls prog 184 #[vV x,vV y] w λe w'=>e=Ak (vV (qky x y))/\Xb w w':=by
 unfold qky;have t:Hid (xK (x.K * y.K)=true->wrap64 (x.K * y.K)=x.K * y.K):=qd yD;obtain⟨f,i⟩:=it (xK (x.K * y.K));obtain⟨l,j⟩:=it ((x.K==-9223372036854775808&&y.K==-1));have E:=qd j
 have C:(y.K==0)=true/\x.K * y.K=0/\f=true\/(y.K==0)=false/\¬y.K=0/\(l||!(wrap64 ((wrap64 (x.K * y.K)).tdiv y.K)==x.K))=!f:=by
  by_cases h:y.K=0
  exact Am ⟨by rw[h];rfl,by rw[h,Int.mul_zero],by rw[<-i,h,Int.mul_zero];rfl⟩;exact An ⟨bh.2 h,h,by rw[<-j,<-i];exact vec z u h⟩
 rw[i]at t |-;clear i j;rcases C with⟨D,A,rfl⟩|⟨D,J,r⟩
 all_goals cases hk:jA x y
 rotate_left 2
 all_goals try(cases l<;>cases f<;>simp only[ti,mx,ow,ry,Bool.true_eq_false]at r)
 all_goals
  have G:=qd hk;clear hk;simp only[mn,iz,dg,if_true,if_false]
  conv=>arg 3;simp only[vV]
  try rw[A]
  try have L:(wrap64 ((wrap64 (x.K * y.K)).tdiv y.K) != x.K)=_:=r
  go_enter func184,ntmps184
  go_wp2_with(first|(go_at_call 176;refine be (yj x y _) λg o=>?_;rw[q9 G];obtain⟨H,K⟩:=qk o;have I:w.1.size+2<g.1.size:=(by have:=o.size;simp at this;omega))|(go_at_call 89;refine be (kF _ _) λw2 d=>?_;obtain⟨m,s⟩:=qk d;simp only[vV])|(go_at_call 175;refine be (jT _) λw2 d=>?_;obtain⟨m,s⟩:=qk d;simp only[vV]))
  try
   go_quiet ((go_at_call 216;exact ol (qj1 E _)))
   go_wp2_with((first|(go_at_call 89;rw[q9 t (by trivial)];refine(kF _ _).mono ?_)|(go_at_call 175;refine(jT _).mono ?_));rintro e w2⟨rfl,q⟩;have d:Xb g w2:=(below_drewN (Below.refl g.1.size g) _).trans q;clear q;obtain⟨m,s⟩:=qk d;simp only[vV])
  refine bj (by simp[go_sem,m,H,I]<;>rfl) rfl ⟨rfl, ?_⟩;exact((((qg (qg (zk _ _ _ _) o) d).setCell ud _).setCell ud _).setCell ud _)
structure Pr where
 N:List UInt8
 val:V
def EvAt(w:Ao)(b off:Nat)(ps:List Pr):Prop:=∀(k:Nat) (p:Pr),ps[k]?=G p ->
 w.cell? ⟨b,off+k * 4,O⟩=G (Y (BS p.N))/\w.cell? ⟨b,off+k * 4+1,O⟩=G (I J p.val.A) /\
 w.cell? ⟨b,off+k * 4+2,O⟩=G (I J p.val.K)/\w.cell? ⟨b,off+k * 4+3,O⟩=G (Y (BS p.val.V))
def qi5(ps:List Pr)(n:List UInt8):Bool:=ps.any λp=>p.N==n
theorem j4{a:Ao}(h:Xb a w)(o:Obj):Xb a (w.alloc o):=h.alloc h.size o
theorem EvAt.below{b off:Nat}{ps:List Pr}(h:EvAt w b off ps)(d:Xb w w')(f:b<w.1.size):EvAt w' b off ps:=by
 intro k p g;obtain⟨m,l,j,i⟩:=h k p g;exact⟨(d.cell f).trans m,(d.cell f).trans l,(d.cell f).trans j,(d.cell f).trans i⟩
theorem vc1{ps:List Pr}{n:tu}{p:Pr}(h:ps[k]?=G p):qi5 (ps.drop k) n=(p.N==n||qi5 (ps.drop (k+1)) n):=by
 obtain⟨d,f⟩:=aj.1 h;unfold qi5;rw[cj d,List.any_cons,f]
theorem vjn(b off cap:Nat)(ps:List Pr)(s:tq)(w:Ao)(o:ps.length<=8)(m:EvAt w b off ps)(q:b<w.1.size):
  ut 87 #[C (G ⟨b,off,O⟩) ps.length cap,Y s] w (Ah (qi5 ps s.data.toList)):=by
 go_enter func87,ntmps87
 go_wp2
 go_loopw [6,9] (λ_ i wr=>∃k:Nat,k<=ps.length/\i=I J k/\Hid (qi5 ps s.data.toList=qi5 (ps.drop k) s.data.toList)/\Xb w wr) (λ_ i _=>ps.length - (intOf i).toNat)
 exact⟨0,bt _,rfl,qd (by rw[dw]),uj⟩;obtain⟨k,r,rfl,d,j⟩:=hrel
 by_cases J9:k<ps.length
 .obtain⟨p,hp⟩:∃p,ps[k]?=G p:=⟨_,ag J9⟩
  obtain⟨y,x,u,t⟩:=(m.below j q) k p hp;have f:=vc1 (n:=s.data.toList) hp;have l:((BS p.N).toList==s.toList)=(p.N==s.data.toList):=by rw[qP,gs]
  cases he:(p.N==s.data.toList) with
  | true=>
   rw[he,ti]at f;rw[he]at l;have g:Hid (qi5 ps s.data.toList=true):=qd (by rw[q9 d,f]);clear f hp he d
   go_wp2
   go_ret;exact⟨qY (by rw[q9 g]),j4 j _⟩
  | false=>
   rw[he,mx]at f;rw[he]at l;have g:Hid (qi5 ps s.data.toList=qi5 (ps.drop (k+1)) s.data.toList):=qd (by rw[q9 d,f]);clear f hp he d
   go_wp2
   exact⟨⟨k+1,ub,by go_num,g,j4 j _⟩,by simp[intOf];omega⟩
 have g:Hid (qi5 ps s.data.toList=false):=qd (by rw[q9 d,eh ub];rfl);clear d
 go_wp2
 go_ret;exact⟨qY (by rw[q9 g]),j⟩
def yh(ps:List Pr)(n:List UInt8):V:=match ps.find? λp=>p.N==n with
 | some p=>p.val
 | none=>nV
theorem qis{ps:List Pr}{n:tu}{p:Pr}(h:ps[k]?=G p):yh (ps.drop k) n=if p.N==n then p.val else yh (ps.drop (k+1)) n:=by
 obtain⟨d,f⟩:=aj.1 h;unfold yh;rw[cj d,f,List.find?_cons];cases p.N==n<;>rfl
theorem vdc(b off cap:Nat)(ps:List Pr)(s:tq)(w:Ao)(x:ps.length<=8)(u:EvAt w b off ps)(M:b<w.1.size):
  ut 88 #[C (G ⟨b,off,O⟩) ps.length cap,Y s] w (vV (yh ps s.data.toList)):=by
 obtain⟨F,l⟩:∃f,yh ps s.data.toList=f:=⟨_,rfl⟩;rw[l];have y:=qd l;clear l;go_enter func88,ntmps88
 go_wp2
 go_loopw [6,9] (λ_ i wr=>∃k:Nat,k<=ps.length/\i=I J k/\Hid (F=yh (ps.drop k) s.data.toList)/\Below (w.1.size+1) (w.alloc (Al #[I J 0,I J 0,Y ⟨#[]⟩] 57)) wr) (λ_ i _=>ps.length - (intOf i).toNat)
 exact⟨0,bt _,rfl,qd (by rw[dw,q9 y]),uj⟩;obtain⟨k,A,rfl,d,q⟩:=hrel;have m:Below (w.alloc (Al #[I J 0,I J 0,Y ⟨#[]⟩] 57)).1.size (w.alloc (Al #[I J 0,I J 0,Y ⟨#[]⟩] 57)) wr:=by simpa using q
 have t:=vf m;obtain⟨o,L⟩:=qk m;have z:w.1.size<wr.1.size:=by have:=m.size;simp at this;omega
 by_cases J9:k<ps.length
 .obtain⟨p,hp⟩:∃p,ps[k]?=G p:=⟨_,ag J9⟩
  obtain⟨K,H,E,D⟩:=u k p hp;have g:=qis (n:=s.data.toList) hp;have r:((BS p.N).toList==s.toList)=(p.N==s.data.toList):=by rw[qP,gs]
  cases he:(p.N==s.data.toList) with
  | true=>
   rw[he,bo rfl]at g;rw[he]at r;have j:Hid (F=p.val):=qd (by rw[q9 d,g]);clear g hp he d
   go_wp2
   refine bj (by simp[go_sem,o,z]<;>rfl) rfl ⟨?_, ?_⟩;rw[q9 j];rfl;exact j4 (((t.setCell uc _).setCell uc _).setCell uc _) _
  | false=>
   rw[he,ak uc]at g;rw[he]at r;have j:Hid (F=yh (ps.drop (k+1)) s.data.toList):=qd (by rw[q9 d,g]);clear g hp he d
   go_wp2
   exact⟨⟨k+1,ub,by go_num,j,q.alloc ub _⟩,by simp[intOf];omega⟩
 have j:Hid (F=nV):=qd (by rw[q9 d,eh ub];rfl);clear d
 go_wp2
 refine bj (by simp[go_sem,o]<;>rfl) rfl ⟨?_, ?_⟩;rw[q9 j];rfl;exact((t.setCell uc _).setCell uc _).setCell uc _
theorem qsk(a:Option Addr)(cap:Nat)(s:tq)(w:Ao):
  ut 88 #[C a 0 cap,Y s] w (vV nV):=by
 go_enter func88,ntmps88
 go_wp2
 refine wp_loop_rounds 1 ?_;rw[rounds_succ]
 go_wp2
 refine tw ⟨rfl,uj.alloc ui _⟩
def jI(n:List UInt8):Bool:=decide (n.length<=16)&&yR n
def gY(v:V):Bool:=
 if v.A==0 then v.K==0&&v.V.isEmpty
 else if v.A==1 then(v.K==0||v.K==1)&&v.V.isEmpty
 else if v.A==2 then v.V.isEmpty
 else if v.A==3 then v.K==0&&decide (v.V.length<=20)
 else false
theorem vQ(b:Bool)(w:Ao):ut 69 #[Ah b] w (vV (bV b)):=by
 cases b
 all_goals
  go_enter func69,ntmps69
  go_wp2
  refine bj (by simp[go_sem]<;>first|rfl|exact⟨rfl,rfl,rfl⟩) rfl ⟨rfl, ?_⟩
  repeat' (first|exact qK _ _ _|refine Below.setCell ?_ uc _)
theorem qhn(x:V)(w:Ao):ut 99 #[vV x] w (vV (yq x)):=by
 unfold yq
 cases hk:(x.A==1) with
 | true=>
  have i:(x.A != 1)=false:=by simp only[bne,hk];rfl
  simp only[vV];go_enter func99,ntmps99
  go_wp2_with(go_at_call 69;refine be (vQ _ _) λw' d=>?_;obtain⟨f,g⟩:=qk d;simp only[vV])
  refine bj (by simp[go_sem,f]<;>rfl) rfl ⟨rfl, ?_⟩;exact((((qg (qK _ _ _) d).setCell uc _).setCell uc _).setCell uc _)
 | false=>
  simp only[vV];go_enter func99,ntmps99
  go_wp2
  refine bj (by simp[go_sem]<;>first|rfl|exact⟨rfl,rfl,rfl⟩) rfl ⟨rfl, ?_⟩
  repeat' (first|exact qK _ _ _|refine Below.setCell ?_ uc _)
theorem qb7(x y:V)(w:Ao):ut 138 #[vV x,vV y] w (vV (eqV x y)):=by
 have g:=λw=>qmz x y w
 simp only[vV]at g;unfold eqV;generalize decide (x=y)=d at *
 cases h0:(x.A==0) with
 | true=>
  simp only[ti,if_true,vV];go_enter func138,ntmps138
  go_wp2
  refine bj (by simp[go_sem]<;>first|rfl|exact⟨rfl,rfl,rfl⟩) rfl ⟨rfl, ?_⟩
  repeat' (first|exact zk _ _ _ _|refine Below.setCell ?_ uc _)
 | false=>
  cases h1:(x.A==y.A) with
  | false=>
   have j:(x.A != y.A)=true:=by simp only[bne,h1];rfl
   simp only[mx,ry,if_true,vV];go_enter func138,ntmps138
   go_wp2
   refine bj (by simp[go_sem]<;>first|rfl|exact⟨rfl,rfl,rfl⟩) rfl ⟨rfl, ?_⟩
   repeat' (first|exact zk _ _ _ _|refine Below.setCell ?_ uc _)
  | true=>
   simp only[mx,ow,dg,if_false,vV];go_enter func138,ntmps138
   go_wp2_with(go_at_call 69;refine be (vQ _ _) λw' f=>?_;obtain⟨o,m⟩:=qk f;have l:w.1.size+2<w'.1.size:=(by have:=f.size;simp at this;omega);have i:Xb w w':=(by first|exact qg (zk _ _ _ _) f|exact qg (by assumption) f);simp only[vV])
   refine bj (by simp[go_sem, *]<;>rfl) rfl ⟨rfl, ?_⟩;exact(((i.setCell ud _).setCell ud _).setCell ud _)
theorem qnk{M:Int}(d:0<b)(f:0<=M):a<=M.tdiv b↔a * b<=M:=by
 rw[rp f];exact Int.le_ediv_iff_mul_le d
theorem vji(f:0<a)(d:0<b):decide (a<=Int.tdiv 9223372036854775807 b)=xK (a * b):=by
 have h:=qnk (a:=a) (M:=9223372036854775807) d ue;have hp:0<a * b:=Int.mul_pos f d;unfold xK;rw[di (show -9223372036854775808<=a * b by omega),li];simp only[h]
theorem vjh(f:a<0)(d:b<0):decide (a≥Int.tdiv 9223372036854775807 b)=xK (a * b):=by
 have h:=qnk (a:=-a) (b:=-b) (M:=9223372036854775807) ub ue;rw[Int.neg_mul_neg,Int.tdiv_neg]at h;have hp:0<a * b:=Int.mul_pos_of_neg_of_neg f d;unfold xK;rw[di (show -9223372036854775808<=a * b by omega),li];have:a≥Int.tdiv 9223372036854775807 b↔a * b<=9223372036854775807:=by rw[<-h];omega
 simp only[this]
theorem qiu(d:0<a)(f:b<0):decide (b≥Int.tdiv (-9223372036854775808) a)=xK (a * b):=by
 have h:=qnk (a:=-b) (b:=a) (M:=9223372036854775808) d ue;have hp:a * b<0:=Int.mul_neg_of_pos_of_neg d f;unfold xK;rw[di (show a * b<=9223372036854775807 by omega),mn];rw[Int.neg_mul,Int.mul_comm b a]at h
 have:b≥Int.tdiv (-9223372036854775808) a↔-9223372036854775808<=a * b:=by
  rw[Int.neg_tdiv];constructor;intro q;have:=h.1 ub;omega;intro q;have:=h.2 ub;omega
 simp only[this]
theorem qfo(d:0<a):wrap64 (-Int.tdiv 9223372036854775808 a)=Int.tdiv (-9223372036854775808) a:=by
 have g:0<=Int.tdiv 9223372036854775808 a:=Int.tdiv_nonneg ue ub
 have f:Int.tdiv 9223372036854775808 a<=9223372036854775808:=by
  rw[rp ue];exact Int.ediv_le_self _ ue
 rw[Int.neg_tdiv];exact yD (by simp[xK];omega)
theorem vbn(d:b<0):wrap64 (Int.tdiv 9223372036854775807 b)=Int.tdiv 9223372036854775807 b:=by
 have e:Int.tdiv 9223372036854775807 b=-Int.tdiv 9223372036854775807 (-b):=by rw[Int.tdiv_neg,Int.neg_neg]
 have g:0<=Int.tdiv 9223372036854775807 (-b):=Int.tdiv_nonneg ue ub
 have f:Int.tdiv 9223372036854775807 (-b)<=9223372036854775807:=by
  rw[rp ue];exact Int.ediv_le_self _ ue
 exact yD (by rw[e];simp[xK];omega)
def vbx(a b:Int)(w:Ao)(e:Ending)(w':Ao):Prop:=∃n ok,e=Ak (Aj #[I J n,Ah ok])/\ok=xK (a * b)/\(xK (a * b)=true->n=a * b)/\w'=w
theorem qk5(a b:Int)(m:Rng a)(l:Rng b)(w:Ao):ua 191 #[I J a,I J b] w (vbx a b w):=by
 unfold Rng at m l;obtain⟨y,t⟩:=m;obtain⟨A,z⟩:=l
 by_cases h0:a=0\/b=0
 .by_cases ha0:a=0
  .subst ha0
   go_enter func191,ntmps191
   go_wp2
   go_ret2
   exact⟨_,_,rfl,by rw[Int.zero_mul];rfl,λ_=>(Int.zero_mul b).symm,rfl⟩
  have s:b=0:=ub;subst s;go_enter func191,ntmps191
  go_wp2
  go_ret2
  exact⟨_,_,rfl,by rw[Int.mul_zero];rfl,λ_=>(Int.mul_zero a).symm,rfl⟩
 have x:(a==0)=false:=bh.2 ub;have u:(b==0)=false:=bh.2 ub
 by_cases am:a=-1
 .subst am
  have e:-1 * b=-b:=ub
  by_cases bl:b=-9223372036854775808
  .subst bl
   go_enter func191,ntmps191
   go_wp2
   go_ret2
   exact⟨_,_,rfl,rfl,(λh=>absurd h ue),rfl⟩
  have q:(b != -9223372036854775808)=true:=by simpa using bl
  have g:=qd e;have j:Hid (xK (-b)=true):=qd (by simp[xK];omega);go_enter func191,ntmps191
  go_wp2
  go_ret2
  exact⟨_,_,rfl,by rw[q9 g,q9 j],λ_=>by rw[q9 g],rfl⟩
 by_cases bm:b=-1
 .subst bm
  have e:a * -1=-a:=ub
  by_cases al:a=-9223372036854775808
  .subst al
   go_enter func191,ntmps191
   go_wp2
   go_ret2
   exact⟨_,_,rfl,rfl,(λh=>absurd h ue),rfl⟩
  have r:(a != -9223372036854775808)=true:=by simpa using al
  have g:=qd e;have j:Hid (xK (-a)=true):=qd (by simp[xK];omega);go_enter func191,ntmps191
  go_wp2
  go_ret2
  exact⟨_,_,rfl,by rw[q9 g,q9 j],λ_=>by rw[q9 g],rfl⟩
 have i:Hid (xK (a * b)=true->wrap64 (a * b)=a * b):=qd λh=>yD h
 by_cases ap:0<a
 .by_cases bp:0<b
  .have d:=vji ap bp
   rw[rp ue]at d;have f:=qd d;clear d h0;go_enter func191,ntmps191
   go_wp2
   go_ret2
   exact⟨_,_,rfl,q9 f,q9 i,rfl⟩
  have d:=qiu ap (show b<0 by omega);rw[<-qfo ap]at d;have f:=qd d;clear d h0;go_enter func191,ntmps191
  go_wp2
  go_ret2
  exact⟨_,_,rfl,q9 f,q9 i,rfl⟩
 have o:a<0:=ub
 by_cases bp:0<b
 .have d:=qiu bp o
  rw[<-qfo bp,Int.mul_comm]at d;have f:=qd d;clear d h0;go_enter func191,ntmps191
  go_wp2
  go_ret2
  exact⟨_,_,rfl,q9 f,q9 i,rfl⟩
 have bn:b<0:=ub;have d:=vjh o bn;rw[<-vbn (show b<0 by omega)]at d;have f:=qd d;clear d h0;go_enter func191,ntmps191
 go_wp2
 go_ret2
 exact⟨_,_,rfl,q9 f,q9 i,rfl⟩
theorem qa6(op:tq)(x y:V)(h:jA x y=false)(w:Ao):Calls prog 135 #[Y op,vV x,vV y] w λe w'=>e=Ak (vV nV)/\Xb w w':=by
 conv=>arg 3;simp only[vV]
 by_cases hx:x.A=2
 .have d:(x.A != 2)=false:=by simp[hx]
  have f:(y.A != 2)=true:=by unfold jA at h;simp[hx]at h;simpa using h
  go_enter func135,ntmps135
  go_wp2
  refine bj (by simp[go_sem]<;>first|rfl|exact⟨rfl,rfl,rfl⟩) rfl ⟨rfl, ?_⟩
  repeat' (first|exact zk _ _ _ _|refine Below.setCell ?_ uc _)
 have d:(x.A != 2)=true:=by simpa using hx
 go_enter func135,ntmps135
 go_wp2
 refine bj (by simp[go_sem]<;>first|rfl|exact⟨rfl,rfl,rfl⟩) rfl ⟨rfl, ?_⟩
 repeat' (first|exact zk _ _ _ _|refine Below.setCell ?_ uc _)
theorem qd1(x y:V):jA y x=jA x y:=by unfold jA;exact Bool.and_comm _ _
theorem gS{x y r:V}{d:tq}(w:Ao)(g:d=⟨#[60]⟩/\r=yQ x y\/d=⟨#[60,61]⟩/\r=leV x y\/d=⟨#[62]⟩/\r=yQ y x\/d=⟨#[62,61]⟩/\r=leV y x):Calls prog 135 #[Y d,vV x,vV y] w λe w'=>e=Ak (vV r)/\Xb w w':=by
 cases h:jA x y with
 | false=>
  have e:r=nV:=by rcases g with⟨_,rfl⟩|⟨_,rfl⟩|⟨_,rfl⟩|⟨_,rfl⟩<;>simp[yQ,leV,qd1,h]
  rw[e];exact qa6 _ x y h w
 | true=>
  have o:yQ x y=bV (decide (x.K<y.K)):=by unfold yQ;rw[h];rfl
  have m:leV x y=bV (decide (x.K<=y.K)):=by unfold leV;rw[h];rfl
  have l:yQ y x=bV (decide (y.K<x.K)):=by unfold yQ;rw[qd1,h];rfl
  have j:leV y x=bV (decide (y.K<=x.K)):=by unfold leV;rw[qd1,h];rfl
  have z:(x.A != 2)=false:=by unfold jA at h;simp at h;simp[h.1]
  have u:(y.A != 2)=false:=by unfold jA at h;simp at h;simp[h.2]
  rw[o,m,l,j]at g
  conv=>arg 3;simp only[vV]
  rcases g with⟨rfl,rfl⟩|⟨rfl,rfl⟩|⟨rfl,rfl⟩|⟨rfl,rfl⟩
  all_goals
   go_enter func135,ntmps135
   go_wp2_with(go_at_call 69;refine be (vQ _ _) λw' f=>?_;obtain⟨t,s⟩:=qk f;have q:w.1.size+2<w'.1.size:=(by have:=f.size;simp at this;omega);have i:Xb w w':=(by first|exact qg (zk _ _ _ _) f|exact qg (by assumption) f);simp only[vV])
   refine bj (by simp[go_sem, *]<;>rfl) rfl ⟨rfl, ?_⟩;exact(((i.setCell ud _).setCell ud _).setCell ud _)
end Go.Proofs.YtdmmmgodfceilaaGreatDoor
