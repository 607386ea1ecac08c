/- Patterns -/
import Derived.Test.YtmepkbgodcffoaaGreatDoorM00
import Derived.Deep.QuietTactic
import Derived.BigQuiet
import Derived.Deep.DeepCutAuto
set_option maxHeartbeats 16000000
set_option maxRecDepth 100000
namespace Go.Proofs.YtmepkbgodcffoaaGreatDoor
open Go.RowKit Go.Proofs.Tryz
open _root_.List renaming length->A
open Go.World renaming ownsRow->ue
open Go.Value renaming ownBlock->ug,agg->Ai,bool->Ah,int->I,slice->C,string->Y,tuple->Aj
open Bool renaming false->uh,true->ui
open Go.Addr renaming mk->D
open _root_.Array renaming size->Z,toList->T
open Go renaming Value->Ap,World->Ao
open Go.Ending renaming returned->Ak
open Go.IntKind renaming i64->J
open Go.Obj renaming cells->Al
open Option renaming none->O,some->G
open Or renaming inl->Am,inr->An
variable{a b n:Int}{e p:uk}{xs:List Ap}{uc F base k size:Nat}{c:UInt8}{v:Ap}{w w':Ao}
structure Pc where
 Q:Int
 c:UInt8
def pcV(p:Pc):Ap:=Ai #[I J p.Q,I .u8 p.c.toNat]
def vS(c:UInt8):Pc:=if((c.toNat:Int)==37)=ui then⟨2,0⟩ else if((c.toNat:Int)==95)=ui then⟨1,0⟩ else⟨0,c⟩
theorem qng(c:UInt8)(w:Ao):
  lz 235 #[I .u8 c.toNat] w (pcV (vS c)):=by
 unfold vS;cases h1:((c.toNat:Int)==37)
 .cases h2:((c.toNat:Int)==95)
  .simp only[dk,if_false]
   go_enter func235,ntmps235
   go_wp2
   refine um ⟨rfl,uy.alloc ux _⟩
  simp only[dk,if_false,if_true];go_enter func235,ntmps235
  go_wp2
  refine um ⟨rfl,uy.alloc ux _⟩
 simp only[if_true];go_enter func235,ntmps235
 go_wp2
 refine um ⟨rfl,uy.alloc ux _⟩
def xo(e:List UInt8):List UInt8->Option (List Pc)
 | []=>G []
 | [c]=>if e.head?=G c then O else G [vS c]
 | c::d::t=>if e.head?=G c then(xo e t).map (⟨0,d⟩::·) else(xo e (d::t)).map (vS c::·)
theorem qca(h:p[k]?=G c)(d:¬e.head?=G c):xo e (p.drop k)=(xo e (p.drop (k+1))).map (vS c::·):=by
 grind[List.drop_eq_getElem_cons,xo]
theorem qin{d:UInt8}(h:p[k]?=G c)(f:e.head?=G c)(g:p[k+1]?=G d):xo e (p.drop k)=(xo e (p.drop (k+2))).map (⟨0,d⟩::·):=by
 grind[List.drop_eq_getElem_cons,xo]
theorem qen(h:p[k]?=G c)(d:e.head?=G c)(f:A p<=k+1):xo e (p.drop k)=O:=by
 grind[List.drop_eq_getElem_cons,xo]
theorem qim(h:A p<=k):xo e (p.drop k)=G []:=by
 rw[eo h,xo]
def ye(ps:List Pc):List Ap:=ps.flatMap λp=>[I J p.Q,I .u8 p.c.toNat]
theorem qnf(ps:List Pc)(p:Pc):ye (ps++[p])=ye ps++[I J p.Q,I .u8 p.c.toNat]:=by simp[ye]
theorem qwt:(prog.info? 266).map (λi=>(i.zero,i.size,i.bytes))=G (G (Ai #[I J 0,I .u8 0]),2,16):=uw
def vpp(w:Ao)(r:Option (List Pc))(e:Ending)(w':Ao):Prop:=
 Below (Z w.1) w w'/\match r with
 | none=>e=Ak (Aj #[C O 0 0,Ah uh])
 | some ps=>∃v,e=Ak (Aj #[v,Ah ui])/\ue w' (Z w.1) 266 2 v (A ps) (ye ps)
theorem qp{e n:Nat}(h:ue w base e size v n xs)(f:Below uc w w')(j:Z w.1<=uc):ue w' base e size v n xs:=by
 refine⟨h.1, ?_⟩;obtain d|⟨g,cap,cur,rfl,i,l,rest⟩:=h.2;exact Am d;refine An ⟨g,cap,cur,rfl,i, ?_,rest⟩;rwa[f.block g (by grind)]
theorem qs4{e n:Nat}(h:ue w base e size v n xs):∀k,ug v=G k->base<=k:=λk d=>(h.lt k d).1
theorem Below.grown{a:Ao}{row:Option Nat}(h:Below uc a w)(d:w.grownBy w' row)(g:uc<=Z w.1)(i:∀k,row=G k->uc<=k):Below uc a w':=
 ⟨d.os.trans h.os,d.tape.trans h.tape,d.output.trans h.output,bu h.size d.size,λk f=>(d.block k uq (λe=>by grind)).trans (h.block k f)⟩
theorem qip{wr d w2:Ao}{e:Nat}{v':Ap}{ps:List Pc}{q:Pc}{o:Obj}(r:ue w2 (Z w.1) e 2 v' (A ps+1) (ye ps++[I J q.Q,I .u8 q.c.toNat]))(j:(d.alloc o).grownBy w2 (ug v))
  (i:ue d (Z w.1) e 2 v (A ps) (ye ps)) (f:Xb w wr) (g:Xb wr d) :
  ue w2 (Z w.1) e 2 v' (A (ps++[q])) (ye (ps++[q]))/\Xb w w2:=by
 have m:=f.size;have l:=g.size;refine⟨by grind[qnf], ?_⟩;exact Below.grown ((qg f g).alloc uq o) j ut (qs4 i)
theorem qqp(p e:uj)(hp:p.size<=200)(w:Ao):
  uo 212 #[Y p,Y e] w (vpp w (xo (T e.data) (T p.data))):=by
 obtain⟨R,P⟩:=ie (xo (T e.data) (T p.data));rw[P];have HR:=qd P;obtain⟨K,L,N,E,H⟩:=info_parts qwt;go_enter func212,ntmps212
 go_wp2
 go_loopw [6,7] (λv i wr=>∃(k:Nat) (ps:List Pc),k<=p.size/\A ps<=k/\i=I J k/\Hid (R=(xo (T e.data) (p.data.toList.drop k)).map (ps++·))/\ue wr (Z w.1) 266 2 v (A ps) (ye ps)/\Xb w wr) (λ_ i _=>p.size - (intOf i).toNat)
 exact⟨0,[],bt _,bt _,rfl,qd (by rw[ee,q9 HR];cases R<;>rfl),dw _ _ _ _,uy⟩;obtain⟨k,ps,hk,iA,rfl,z,B,s⟩:=hrel;have eK:=s.size
 by_cases A1:k<p.size
 .have dH:p.data.toList[k]?=G p[k]:=by rw[ag (by rwa[qy]),qF p k A1]
  have plainCase:¬e.data.toList.head?=G p[k]->Hid (R=(xo (T e.data) (p.data.toList.drop (k+1))).map ((ps++[vS p[k]])++·)):=λU=>qd (by rw[q9 z,qca dH U];cases xo (T e.data) (p.data.toList.drop (k+1))<;>simp)
  by_cases he:0<e.size
  .have hne:=qbs he
   have Q:e.data.toList.head?=G e[0]:=by
    have:=ag (l:=T e.data) (i:=0) (by rwa[qy]);rw[qF e 0 he]at this;rw[rm];exact this
   cases hx:(p[k]==e[0]) with
   | false=>
    have g:=plainCase (by rw[Q];intro h;injection h with h;rw[h]at hx;simp at hx);have I0:((p[k].toNat:Int)==(e[0].toNat:Int))=uh:=by rwa[kO]
    go_wp2
    go_quiet (fail)
    go_wp2_with(first|(go_at_call 235;refine(qng p[k] _).mono ?_;rintro W t⟨rfl,M⟩;have r:Xb wr t:=(below_drewN (Below.refl _ wr) _).trans M;have B9:=r.size;have o:=qp B r ux;simp only[pcV])|(at_builtin;refine wpList_append_own _ rfl _ _ 260 rfl (Z w.1) 266 K (Ai #[I J 0,I .u8 0]) 2 16 underlying260 L N E H rfl uu _ _ _ rfl (o.alloc _) ⟨Z t.1,0,O⟩ 1 1 [I J (vS p[k]).Q,I .u8 (vS p[k]).c.toNat] rfl rfl ?c1 ?c2 ?c3 ?c4 ?c5 ?_))
    case c1=>
     intro j u f
     match j,f with
     | 0,f=>simp at f;subst f;simp[Addr.add]
     | 1,f=>simp at f;subst f;simp[Addr.add]
     | j+2,f=>simp at f
    case c2=>intro u m;simp at m;obtain rfl|rfl:=m<;>rfl
    case c3=>unfold maxLen;omega
    case c4=>omega
    case c5=>simp;omega
    intro v' w2 x y _;have R:=qip x y o s r
    go_wp2
    go_roundw
    case rel=>exact⟨k+1,_,uq,ut,by go_num,g,R.1,R.2⟩
    simp[intOf];omega
   | true=>
    have S:e.data.toList.head?=G p[k]:=by rw[Q,ew.1 hx]
    have I0:((p[k].toNat:Int)==(e[0].toNat:Int))=ui:=by rwa[kO]
    by_cases hl:k+1<p.size
    .have lR:p.data.toList[k+1]?=G p[k+1]:=by rw[ag (by rwa[qy]),qF p (k+1) hl]
     have g:Hid (R=(xo (T e.data) (p.data.toList.drop (k+2))).map ((ps++[⟨0,p[k+1]⟩])++·)):=qd (by rw[q9 z,qin dH S lR];cases xo (T e.data) (p.data.toList.drop (k+2))<;>simp);have F8:(((k:Int)+1)==(p.size:Int))=uh:=aw.2 uq
     go_wp2
     go_quiet (fail)
     have o:=qp B (below_drewN (Below.refl _ wr) nq) ux
     go_wp2_with(first|(at_builtin;refine wpList_append_own _ rfl _ _ 260 rfl (Z w.1) 266 K (Ai #[I J 0,I .u8 0]) 2 16 underlying260 L N E H rfl uu _ _ _ rfl (o.alloc _) ⟨Z wr.1,0,O⟩ 1 1 [I J 0,I .u8 p[k+1].toNat] rfl rfl ?c1 ?c2 ?c3 ?c4 ?c5 ?_))
     case c1=>
      intro j u f
      match j,f with
      | 0,f=>simp at f;subst f;simp[Addr.add];exact(ce (w:=wr.drewN nq) _ _ _ _ rfl).trans rfl
      | 1,f=>simp at f;subst f;simp[Addr.add];exact(ce (w:=wr.drewN nq) _ _ _ _ rfl).trans rfl
      | j+2,f=>simp at f
     case c2=>intro u m;simp at m;obtain rfl|rfl:=m<;>rfl
     case c3=>unfold maxLen;omega
     case c4=>omega
     case c5=>simp;omega
     intro v' w2 x y _;have R:=qip (q:=⟨0,p[k+1]⟩) x y o s (below_drewN (Below.refl _ wr) nq)
     go_wp2
     go_roundw
     case rel=>exact⟨k+2,_,uq,ut,by go_num,g,R.1,R.2⟩
     simp[intOf];omega
    have g:Hid (R=O):=qd (by rw[q9 z,qen dH S (by rw[qy];omega)];rfl)
    go_wp2
    go_quiet (fail)
    go_wp2
    go_ret2
    rw[q9 g];exact⟨below_drewN s _,rfl⟩
  have X:e=⟨#[]⟩:=by cases e with|mk d=>simp[ByteArray.size]at he;simp[he]
  subst X;have g:=plainCase ur
  go_wp2
  go_quiet (fail)
  go_wp2_with(first|(go_at_call 235;refine(qng p[k] _).mono ?_;rintro W t⟨rfl,M⟩;have r:Xb wr t:=(below_drewN (Below.refl _ wr) _).trans M;have B9:=r.size;have o:=qp B r ux;simp only[pcV])|(at_builtin;refine wpList_append_own _ rfl _ _ 260 rfl (Z w.1) 266 K (Ai #[I J 0,I .u8 0]) 2 16 underlying260 L N E H rfl uu _ _ _ rfl (o.alloc _) ⟨Z t.1,0,O⟩ 1 1 [I J (vS p[k]).Q,I .u8 (vS p[k]).c.toNat] rfl rfl ?c1 ?c2 ?c3 ?c4 ?c5 ?_))
  case c1=>
   intro j u f
   match j,f with
   | 0,f=>simp at f;subst f;simp[Addr.add]
   | 1,f=>simp at f;subst f;simp[Addr.add]
   | j+2,f=>simp at f
  case c2=>intro u m;simp at m;obtain rfl|rfl:=m<;>rfl
  case c3=>unfold maxLen;omega
  case c4=>omega
  case c5=>simp;omega
  intro v' w2 x y _;have R:=qip x y o s r
  go_wp2
  go_roundw
  case rel=>exact⟨k+1,_,uq,ut,by go_num,g,R.1,R.2⟩
  simp[intOf];omega
 have g:Hid (R=G ps):=qd (by rw[q9 z,qim (by rw[qy];omega)];simp)
 go_wp2
 go_ret2
 rw[q9 g];exact⟨s,_,rfl,B⟩
theorem vgc(p e:uj)(hp:p.size<=200)(w:Ao):
  uo 312 #[Y p,Y e] w λf w'=>f=Ak (Ah (xo (T e.data) (T p.data)).isSome)/\Xb w w':=by
 cases hc:xo (T e.data) (T p.data) with
 | none=>
  have g:=qd hc;go_enter func312,ntmps312
  go_wp2_with(refine(qqp p e hp _).mono ?_;rintro f i⟨h,d⟩;rw[q9 g]at d;subst d)
  go_ret;exact⟨rfl,h⟩
 | some ps=>
  have g:=qd hc;go_enter func312,ntmps312
  go_wp2_with(refine(qqp p e hp _).mono ?_;rintro f i⟨h,d⟩;rw[q9 g]at d;obtain⟨v,rfl,j⟩:=d)
  go_ret;exact⟨rfl,h⟩
def yh(n:Int):Bool:=decide (-9223372036854775808<=n)&&decide (n<=9223372036854775807)
def Rng(n:Int):Prop:=-9223372036854775808<=n/\n<=9223372036854775807
def qpt(x y:V):V:=if jO x y&&yh (x.M+y.M) then iV (x.M+y.M) else nV
def qym(x y:V):V:=if jO x y&&yh (x.M - y.M) then iV (x.M - y.M) else nV
def qpv(x y:V):V:=if jO x y&&yh (x.M * y.M) then iV (x.M * y.M) else nV
def qwf(x y:V):V:=if jO x y&&!(y.M==0)&&yh (x.M.tdiv y.M) then iV (x.M.tdiv y.M) else nV
theorem kg(h:yh n=ui):wrap64 n=n:=by
 grind[yh,wrap64]
theorem vgv(f:Rng a)(d:Rng b):((decide (wrap64 (a+b)<a)) != (decide (b<0)))=!yh (a+b):=by
 grind[Rng,yh,wrap64]
theorem vmw(f:Rng a)(d:Rng b):((decide (a<wrap64 (a - b))) != (decide (b<0)))=!yh (a - b):=by
 grind[Rng,yh,wrap64]
theorem qvl(x y:V)(w:Ao)(g:F=180/\n=x.M+y.M/\(decide (wrap64 n<x.M) != decide (y.M<0))=!yh n\/F=181/\n=x.M - y.M/\(decide (x.M<wrap64 n) != decide (y.M<0))=!yh n):
  Calls prog F #[vV x,vV y] w λe w'=>e=Ak (vV (if jO x y&&yh n then iV n else nV))/\Xb w w':=by
 have q:Hid (yh n=ui->wrap64 n=n):=qd kg;simp only[bne]at g;generalize yh n=f at *;cases hk:jO x y<;>cases f
 all_goals
  have r:=qd hk;simp only[nl,lu,dk,if_true,if_false,rq,sn]at g |-
  conv=>arg 3;simp only[vV]
  obtain⟨rfl,rfl,m⟩|⟨rfl,rfl,m⟩:=g
  all_goals
   first|go_enter func180,ntmps180|go_enter func181,ntmps181
   go_wp2_with(first|(go_at_call 174;refine be (yN x y _) λl i=>?_;rw[q9 r];obtain⟨s,u⟩:=qi i;have t:Z w.1+2<Z l.1:=(by have:=i.size;simp at this;omega))|(go_at_call 87;rw[q9 q (by trivial)];refine be (kd _ _) λw2 d=>?_;obtain⟨j,o⟩:=qi d;simp only[vV])|(refine be (zn _) λw2 d=>?_;obtain⟨j,o⟩:=qi d;simp only[vV]))
   refine bo (by simp[go_sem,j,s,t]<;>rfl) rfl ⟨rfl, ?_⟩;exact((((qg (qg (jK _ _ _ _) i) d).setCell ut _).setCell ut _).setCell ut _)
theorem qvf(x y:V)(f:Rng x.M)(d:Rng y.M)(w:Ao):lz 180 #[vV x,vV y] w (vV (qpt x y)):=qvl x y w (Am ⟨rfl,rfl,vgv f d⟩)
theorem qbw(x y:V)(f:Rng x.M)(d:Rng y.M)(w:Ao):lz 181 #[vV x,vV y] w (vV (qym x y)):=qvl x y w (An ⟨rfl,rfl,vmw f d⟩)
theorem kQ{a:Ao}(h:Xb a w)(o:Obj):Xb a (w.alloc o):=h.alloc h.size o
theorem qvh(b:Bool)(w:Ao):
  uo 89 #[Ah b] w λe w'=>e=Ak (vV (bV b))/\w'=w.alloc (Al #[I J (bV b).Q,I J (bV b).M,Y (BS (bV b).str)] 57):=by
 cases b
 all_goals
  go_enter func89,ntmps89
  go_wp2
  refine um ⟨rfl,rfl⟩
abbrev vA(x:V):Array Ap:=#[I J x.Q,I J x.M,Y (BS x.str)]
abbrev vZ:Array Ap:=#[I J 0,I J 0,Y ⟨#[]⟩]
def vxi(o p:Bool)(x y:V):V:=if decide (x=bV o)||decide (y=bV o) then bV o else if decide (x=bV p)&&decide (y=bV p) then bV p else nV
def qib(x y:V):V:=if decide (x=bV uh)||decide (y=bV uh) then bV uh else if decide (x=bV ui)&&decide (y=bV ui) then bV ui else nV
def orV(x y:V):V:=if decide (x=bV ui)||decide (y=bV ui) then bV ui else if decide (x=bV uh)&&decide (y=bV uh) then bV uh else nV
theorem vje(w:Ao)(a b c:Array Ap)(s t u:TypeId){W:Ao}(h:((w.alloc (Al a s)).alloc (Al b t)).alloc (Al c u)=W):Xb w W/\Z W.1=Z w.1+3/\(∀i,W.cell? ⟨Z w.1,i,O⟩=a[i]?)/\(∀i,W.cell? ⟨Z w.1+1,i,O⟩=b[i]?)/\(∀i,W.cell? ⟨Z w.1+2,i,O⟩=c[i]?)/\Xf W (Z w.1+2):=by
 grind[Below.refl,Below.alloc,World.alloc,World.cell?_alloc_at,World.frozen?_alloc_at,World.cell?_alloc_past]
theorem qj6{K:Nat}{o p:Bool}(hF:F=122/\K=89/\o=uh/\p=ui\/F=175/\K=89/\o=ui/\p=uh\/F=134/\K=67/\o=uh/\p=ui\/F=135/\K=67/\o=ui/\p=uh)(HK:∀b w,Calls prog K #[Ah b] w λe w'=>e=Ak (vV (bV b))/\Xb w w')(x y:V)(w:Ao):Calls prog F #[vV x,vV y] w λe w'=>e=Ak (vV (vxi o p x y))/\Xb w w':=by
 have ex:=λw=>qit x (bV o) w
 have ey:=λw=>qit y (bV o) w
 have fx:=λw=>qit x (bV p) w
 have fy:=λw=>qit y (bV p) w
 have HT:=qd HK;simp only[vV]at ex ey fx fy HT;unfold vxi;generalize decide (x=bV o)=a at *;generalize decide (y=bV o)=b at *;generalize decide (x=bV p)=c at *;generalize decide (y=bV p)=d at *;generalize CU:((w.alloc (Al (vA x) 57)).alloc (Al (vA y) 57)).alloc (Al vZ 57)=W0;obtain⟨K0,t7,xc,yc,zc,zf⟩:=vje _ _ _ _ _ _ _ CU;have HW:=qd CU;have HB:Hid (Xb W0 W0.drew):=qd uy.drew;have SS:∀U,Xb W0 U->(∀i,U.cell? ⟨Z w.1,i,O⟩=(vA x)[i]?)/\∀i,U.cell? ⟨Z w.1+1,i,O⟩=(vA y)[i]?:=λU hU=>⟨λi=>((qi hU).1 _ i uq).trans (xc i),λi=>((qi hU).1 _ i uq).trans (yc i)⟩
 have RE:∀U,Xb W0 U->(∀i,U.cell? ⟨Z w.1+2,i,O⟩=vZ[i]?)/\(Xf U (Z w.1+2))/\Z w.1+2<Z U.1/\Xb w U:=λU hU=>⟨λi=>((qi hU).1 _ i uq).trans (zc i),λi=>((qi hU).2 _ i uq).trans (zf i),by have:=hU.size;omega,qg K0 hU⟩
 clear CU HK zc zf;obtain⟨z,h⟩:∃z,True/\a=ui/\z=ui\/a=uh/\b=ui/\z=ui\/True/\a=uh/\b=uh/\z=uh:=⟨a||b,by cases a<;>cases b<;>simp⟩;obtain⟨k0,rfl,hz⟩|⟨rfl,rfl,hz⟩|⟨k,rfl,rfl,hz⟩:=h
 all_goals
  simp only[Bool.true_or,oe,dk,if_true,if_false]
  conv=>arg 3;simp only[vV]
  obtain⟨rfl,rfl,rfl,rfl⟩|⟨rfl,rfl,rfl,rfl⟩|⟨rfl,rfl,rfl,rfl⟩|⟨rfl,rfl,rfl,rfl⟩:=hF
 all_goals
  first|go_enter func122,ntmps122|go_enter func175,ntmps175|go_enter func134,ntmps134|go_enter func135,ntmps135
  go_wp2_with fail
  rw[q9 HW]
  go_cut [5] (λs5 wx=>s5=Ah z/\Hid (Xb W0 wx))
  case first=>
   first | (have _q := k0; first | go_region_with ((first | go_at_call 89 | go_at_call 67); refine (HT _ _).mono ?_; rintro e w1 ⟨rfl, A0⟩; replace HB := qd (qg HB A0); obtain ⟨M3, Z0⟩ := SS _ HB; clear A0) | fail "no") | (go_region_held3 (fun W => (∀ i, W.cell? ⟨Z w.1, i, O⟩ = (vA x)[i]?) ∧ ∀ i, W.cell? ⟨Z w.1 + 1, i, O⟩ = (vA y)[i]?) (first | with_reducible assumption | exact SS _ HB) (((first | go_at_call 89 | go_at_call 67); refine (HT _ _).mono ?_; rintro e w1 ⟨rfl, A0⟩; replace HB := qd (qg HB A0); have oM := SS _ HB; clear A0))) | fail "no"
   all_goals(go_wp2_with fail;go_meet;exact⟨by rw[hz],HB⟩)
  case rest=>
   obtain⟨rfl,HC⟩:=hcut;subst hz
   first
   | (
    have _q:=k;replace HB:=qd HC.drew;obtain⟨M3,Z0⟩:=SS _ HC;obtain⟨v,h⟩:∃v,True/\c=uh/\v=uh\/c=ui/\d=uh/\v=uh\/c=ui/\d=ui/\v=ui:=⟨c&&d,by cases c<;>cases d<;>simp⟩;obtain⟨k1,rfl,hv⟩|⟨rfl,rfl,hv⟩|⟨rfl,rfl,hv⟩:=h
    all_goals
     go_wp2_with fail
     go_cut [15] (λs15 wx=>s15=Ah v/\Hid (Xb W0 wx))
     case first=>
      first | (have _q := k1; first | go_region_with ((first | go_at_call 89 | go_at_call 67); refine (HT _ _).mono ?_; rintro e w1 ⟨rfl, A0⟩; replace HB := qd (qg HB A0); obtain ⟨M3, Z0⟩ := SS _ HB; clear A0) | fail "no") | (go_region_held3 (fun W => (∀ i, W.cell? ⟨Z w.1, i, O⟩ = (vA x)[i]?) ∧ ∀ i, W.cell? ⟨Z w.1 + 1, i, O⟩ = (vA y)[i]?) (first | with_reducible assumption | exact SS _ HB) (((first | go_at_call 89 | go_at_call 67); refine (HT _ _).mono ?_; rintro e w1 ⟨rfl, A0⟩; replace HB := qd (qg HB A0); have oM := SS _ HB; clear A0)))
      all_goals(go_wp2_with fail;go_meet;exact⟨by rw[hv],HB⟩)
     case rest=>
      clear HC M3 Z0;obtain⟨rfl,HC⟩:=hcut;subst hv;obtain⟨z1,z2,z3,z4⟩:=RE _ HC;have HZ:=qd z4;clear z4 SS xc yc HB
      go_wp2_with(first|((first|go_at_call 89|go_at_call 67);refine(HT _ _).mono ?_;rintro e w2⟨rfl,A3⟩;replace HZ:=qd (qg HZ A3);obtain⟨z1,z2,z3,_⟩:=RE _ (qg HC A3);clear A3)|(go_at_call 173;refine(zn _).mono ?_;rintro e w2⟨rfl,A3⟩;replace HZ:=qd (qg HZ A3);obtain⟨z1,z2,z3,_⟩:=RE _ (qg HC A3);clear A3;simp only[vV]))
      refine bo (by simp[go_sem,z1]<;>first|rfl|exact⟨rfl,rfl,rfl⟩) rfl ⟨rfl, ?_⟩
      exact((HZ.setCell (by first|omega|(simp<;>omega)) _).setCell (by first|omega|(simp<;>omega)) _).setCell (by first|omega|(simp<;>omega)) _)
   | (
    obtain⟨z1,z2,z3,z4⟩:=RE _ HC;have HZ:=qd z4;clear z4 SS xc yc HB
    go_wp2_with(first|((first|go_at_call 89|go_at_call 67);refine(HT _ _).mono ?_;rintro e w2⟨rfl,A3⟩;replace HZ:=qd (qg HZ A3);obtain⟨z1,z2,z3,_⟩:=RE _ (qg HC A3);clear A3)|(go_at_call 173;refine(zn _).mono ?_;rintro e w2⟨rfl,A3⟩;replace HZ:=qd (qg HZ A3);obtain⟨z1,z2,z3,_⟩:=RE _ (qg HC A3);clear A3;simp only[vV]))
    refine bo (by simp[go_sem,z1]<;>first|rfl|exact⟨rfl,rfl,rfl⟩) rfl ⟨rfl, ?_⟩
    exact((HZ.setCell (by first|omega|(simp<;>omega)) _).setCell (by first|omega|(simp<;>omega)) _).setCell (by first|omega|(simp<;>omega)) _)
theorem qvg(x y:V)(w:Ao):lz 122 #[vV x,vV y] w (vV (qib x y)):=qj6 (Am ⟨rfl,rfl,rfl,rfl⟩) jC x y w
theorem vg9(x y:V)(w:Ao):lz 175 #[vV x,vV y] w (vV (orV x y)):=qj6 (An (Am ⟨rfl,rfl,rfl,rfl⟩)) jC x y w
theorem qyo(p b:Int)(d:b≠0):∃r,p=b * p.tdiv b+r/\r.natAbs<b.natAbs:=by
 refine⟨p.tmod b,(Int.mul_tdiv_add_tmod p b).symm, ?_⟩;rw[Int.natAbs_tmod];exact Nat.mod_lt _ (Int.natAbs_pos.2 d)
theorem qi2(p b:Int)(g:b≠-1)(hp:Rng p):Rng (p.tdiv b):=by
 have h:=Int.natAbs_tdiv_le_natAbs p b;unfold Rng at hp |-
 by_cases hm:p=-9223372036854775808
 by_cases h1:b=1
 grind
 by_cases h0:b=0
 grind
 have f:=Int.natAbs_tdiv p b;have d:p.natAbs.div b.natAbs<=p.natAbs / 2:=Nat.div_le_div_left uq uq;omega;omega
theorem qko(h:Rng n):wrap64 n=n:=by
 grind[Rng,wrap64]
theorem qv3(n:Int):Rng (wrap64 n):=by
 grind[Rng,wrap64]
theorem qiu(n:Int):yh n=ui↔Rng n:=by simp[yh,Rng]
theorem vjb(l:Rng a)(j:Rng b)(d:b≠0):
  ((a==-9223372036854775808&&b==-1)||!(wrap64 ((wrap64 (a * b)).tdiv b)==a))=!yh (a * b):=by
 cases hf:yh (a * b) with
 | true =>grind[qiu,qko,Int.mul_tdiv_cancel,Rng]
 | false=>
  have i:¬Rng (a * b):=λh=>by grind[qiu]
  by_cases h1:b=-1
  grind[Rng]
  have f:=qi2 (wrap64 (a * b)) b h1 (qv3 _);rw[qko f];obtain⟨r,g,m⟩:=qyo (wrap64 (a * b)) b d
  have:¬(wrap64 (a * b)).tdiv b=a:=by
   grind[Int.mul_comm,Rng,wrap64]
  simp[this]
theorem qtz(d:Rng a):(a==-9223372036854775808&&b==-1)=!yh (a.tdiv b):=by
 by_cases h1:b=-1
 subst h1;have e:a.tdiv (-1)=-a:=by grind
 rw[e,Bool.eq_iff_iff];simp[yh];unfold Rng at d;omega
 grind[qiu,qi2]
theorem vbu(a b:Int)(w:Ao):
  uo 214 #[I J a,I J b] w λe w'=>e=Ak (Ah (a==-9223372036854775808&&b==-1))/\w'=w:=by
 go_enter func214,ntmps214
 go_wp2
 all_goals(go_ret;exact⟨vd uv,rfl⟩)
theorem qmv{v:Bool}(h:(a==-9223372036854775808&&b==-1)=v)(w:Ao):
  uo 214 #[I J a,I J b] w λe w'=>e=Ak (Ah v)/\w'=w:=by
 grind[vbu]
theorem qt6(x y:V)(o:Rng x.M)(w:Ao):
  Calls prog 183 #[vV x,vV y] w λe w'=>e=Ak (vV (qwf x y))/\Xb w w':=by
 have q:=qtz (b:=y.M) o;unfold qwf;have s:Hid (yh (x.M.tdiv y.M)=ui->wrap64 (x.M.tdiv y.M)=x.M.tdiv y.M):=qd kg;have i:(y.M==0)=uh->¬y.M=0:=λh=>by simpa using h
 generalize yh (x.M.tdiv y.M)=f at *;have l:=qd q;cases hk:jO x y<;>cases h0:(y.M==0)<;>cases f
 all_goals
  have t:=qd hk
  try have i:=i h0
  simp only[rq,sn,nl,lu,dk,if_true,if_false]at l |-
  conv=>arg 3;simp only[vV]
  go_enter func183,ntmps183
  go_wp2_with(first|(go_at_call 174;refine be (yN x y _) λm g=>?_;rw[q9 t];obtain⟨u,B⟩:=qi g;have z:Z w.1+2<Z m.1:=(by have:=g.size;simp at this;omega))|(go_at_call 214;refine be (qmv l _) ?_;rintro A rfl)|(go_at_call 87;rw[q9 s (by trivial)];refine be (kd _ _) λw2 d=>?_;obtain⟨j,r⟩:=qi d;simp only[vV])|(refine be (zn _) λw2 d=>?_;obtain⟨j,r⟩:=qi d;simp only[vV]))
  refine bo (by simp[go_sem,j,u,z]<;>rfl) rfl ⟨rfl, ?_⟩;exact((((qg (qg (jK _ _ _ _) g) d).setCell ut _).setCell ut _).setCell ut _)
theorem qkm(x y:V)(z:Rng x.M)(u:Rng y.M)(w:Ao):
  Calls prog 182 #[vV x,vV y] w λe w'=>e=Ak (vV (qpv x y))/\Xb w w':=by
 unfold qpv;have s:Hid (yh (x.M * y.M)=ui->wrap64 (x.M * y.M)=x.M * y.M):=qd kg;obtain⟨f,i⟩:=ie (yh (x.M * y.M));obtain⟨l,q⟩:=ie ((x.M==-9223372036854775808&&y.M==-1));have D:=qd q
 have B:(y.M==0)=ui/\x.M * y.M=0/\f=ui\/(y.M==0)=uh/\¬y.M=0/\(l||!(wrap64 ((wrap64 (x.M * y.M)).tdiv y.M)==x.M))=!f:=by
  by_cases h:y.M=0
  exact Am ⟨by rw[h];rfl,by rw[h,Int.mul_zero],by rw[<-i,h,Int.mul_zero];rfl⟩;exact An ⟨aw.2 h,h,by rw[<-q,<-i];exact vjb z u h⟩
 rw[i]at s |-;obtain⟨C,A,rfl⟩|⟨C,I,o⟩:=B
 all_goals cases hk:jO x y
 rotate_left 2
 all_goals try(cases l<;>cases f<;>simp only[Bool.true_or,oe,rq,sn,Bool.true_eq_false]at o)
 all_goals
  have E:=qd hk;simp only[nl,lu,dk,if_true,if_false]
  conv=>arg 3;simp only[vV]
  try rw[A]
  try have J:(wrap64 ((wrap64 (x.M * y.M)).tdiv y.M) != x.M)=_:=o
  go_enter func182,ntmps182
  go_wp2_with(first|(go_at_call 174;refine be (yN x y _) λg m=>?_;rw[q9 E];obtain⟨G,K⟩:=qi m;have H:Z w.1+2<Z g.1:=(by have:=m.size;simp at this;omega))|(go_at_call 87;refine be (kd _ _) λw2 d=>?_;obtain⟨j,r⟩:=qi d;simp only[vV])|(refine be (zn _) λw2 d=>?_;obtain⟨j,r⟩:=qi d;simp only[vV]))
  try
   go_quiet ((go_at_call 214;exact ox (qmv D _)))
   go_wp2_with((first|(go_at_call 87;rw[q9 s (by trivial)];refine(kd _ _).mono ?_)|(go_at_call 173;refine(zn _).mono ?_));rintro e w2⟨rfl,t⟩;have d:Xb g w2:=(below_drewN (Below.refl (Z g.1) g) _).trans t;obtain⟨j,r⟩:=qi d;simp only[vV])
  refine bo (by simp[go_sem,j,G,H]<;>rfl) rfl ⟨rfl, ?_⟩;exact((((qg (qg (jK _ _ _ _) m) d).setCell ut _).setCell ut _).setCell ut _)
structure Pr where
 j:List UInt8
 val:V
def EvAt(w:Ao)(b off:Nat)(ps:List Pr):Prop:=∀(k:Nat) (p:Pr),ps[k]?=G p ->
 w.cell? ⟨b,off+k * 4,O⟩=G (Y (BS p.j))/\w.cell? ⟨b,off+k * 4+1,O⟩=G (I J p.val.Q) /\
 w.cell? ⟨b,off+k * 4+2,O⟩=G (I J p.val.M)/\w.cell? ⟨b,off+k * 4+3,O⟩=G (Y (BS p.val.str))
def qkt(ps:List Pr)(n:List UInt8):Bool:=ps.any λp=>p.j==n
theorem jf{a:Ao}(h:Xb a w)(o:Obj):Xb a (w.alloc o):=h.alloc h.size o
theorem EvAt.h{b off:Nat}{ps:List Pr}(h:EvAt w b off ps)(d:Xb w w')(f:b<Z w.1):EvAt w' b off ps:=by
 grind[Below.cell,EvAt]
theorem vgy{ps:List Pr}{n:uk}{p:Pr}(h:ps[k]?=G p):qkt (ps.drop k) n=(p.j==n||qkt (ps.drop (k+1)) n):=by
 grind[qkt,List.drop_eq_getElem_cons]
theorem vqs(b off cap:Nat)(ps:List Pr)(s:uj)(w:Ao)(o:A ps<=8)(m:EvAt w b off ps)(q:b<Z w.1):
  lz 85 #[C (G (D b off O)) (A ps) cap,Y s] w (Ah (qkt ps (T s.data))):=by
 go_enter func85,ntmps85
 go_wp2
 go_loopw [6,9] (λ_ i wr=>∃k:Nat,k<=A ps/\i=I J k/\Hid (qkt ps (T s.data)=qkt (ps.drop k) (T s.data))/\Xb w wr) (λ_ i _=>A ps - (intOf i).toNat)
 exact⟨0,bt _,rfl,qd (by rw[ee]),uy⟩;obtain⟨k,r,rfl,j,f⟩:=hrel
 by_cases L5:k<A ps
 .obtain⟨p,hp⟩:∃p,ps[k]?=G p:=⟨_,ag L5⟩
  obtain⟨y,x,u,t⟩:=(m.h f q) k p hp;have g:=vgy (n:=T s.data) hp;have l:((BS p.j).toList==s.toList)=(p.j==T s.data):=by rw[qP,io]
  cases he:(p.j==T s.data) with
  | true=>
   rw[he,Bool.true_or]at g;rw[he]at l;have d:Hid (qkt ps (T s.data)=ui):=qd (by rw[q9 j,g])
   go_wp2
   go_ret;exact⟨vd (by rw[q9 d]),jf f _⟩
  | false=>
   rw[he,oe]at g;rw[he]at l;have d:Hid (qkt ps (T s.data)=qkt (ps.drop (k+1)) (T s.data)):=qd (by rw[q9 j,g])
   go_wp2
   exact⟨⟨k+1,uq,by go_num,d,jf f _⟩,by simp[intOf];omega⟩
 have d:Hid (qkt ps (T s.data)=uh):=qd (by rw[q9 j,eo uq];rfl)
 go_wp2
 go_ret;exact⟨vd (by rw[q9 d]),f⟩
def yA(ps:List Pr)(n:List UInt8):V:=match ps.find? λp=>p.j==n with
 | some p=>p.val
 | none=>nV
theorem qml{ps:List Pr}{n:uk}{p:Pr}(h:ps[k]?=G p):yA (ps.drop k) n=if p.j==n then p.val else yA (ps.drop (k+1)) n:=by
 grind[yA,List.drop_eq_getElem_cons]
theorem vib(b off cap:Nat)(ps:List Pr)(s:uj)(w:Ao)(u:A ps<=8)(t:EvAt w b off ps)(M:b<Z w.1):
  lz 86 #[C (G (D b off O)) (A ps) cap,Y s] w (vV (yA ps (T s.data))):=by
 obtain⟨F,m⟩:=ie (yA ps (T s.data));rw[m];have x:=qd m;go_enter func86,ntmps86
 go_wp2
 go_loopw [6,9] (λ_ i wr=>∃k:Nat,k<=A ps/\i=I J k/\Hid (F=yA (ps.drop k) (T s.data))/\Below (Z w.1+1) (w.alloc (Al #[I J 0,I J 0,Y ⟨#[]⟩] 57)) wr) (λ_ i _=>A ps - (intOf i).toNat)
 exact⟨0,bt _,rfl,qd (by rw[ee,q9 x]),uy⟩;obtain⟨k,z,rfl,g,l⟩:=hrel;have j:Below (Z (w.alloc (Al #[I J 0,I J 0,Y ⟨#[]⟩] 57)).1) (w.alloc (Al #[I J 0,I J 0,Y ⟨#[]⟩] 57)) wr:=by simpa using l
 have r:=vh j;obtain⟨o,L⟩:=qi j;have y:Z w.1<Z wr.1:=by have:=j.size;simp at this;omega
 by_cases L5:k<A ps
 .obtain⟨p,hp⟩:∃p,ps[k]?=G p:=⟨_,ag L5⟩
  obtain⟨K,H,E,B⟩:=t k p hp;have f:=qml (n:=T s.data) hp;have q:((BS p.j).toList==s.toList)=(p.j==T s.data):=by rw[qP,io]
  cases he:(p.j==T s.data) with
  | true=>
   rw[he,bs rfl]at f;rw[he]at q;have d:Hid (F=p.val):=qd (by rw[q9 g,f])
   go_wp2
   refine bo (by simp[go_sem,o,y]<;>rfl) rfl ⟨?_, ?_⟩;rw[q9 d];rfl;exact jf (((r.setCell ur _).setCell ur _).setCell ur _) _
  | false=>
   rw[he,ak ur]at f;rw[he]at q;have d:Hid (F=yA (ps.drop (k+1)) (T s.data)):=qd (by rw[q9 g,f])
   go_wp2
   exact⟨⟨k+1,uq,by go_num,d,l.alloc uq _⟩,by simp[intOf];omega⟩
 have d:Hid (F=nV):=qd (by rw[q9 g,eo uq];rfl)
 go_wp2
 refine bo (by simp[go_sem,o]<;>rfl) rfl ⟨?_, ?_⟩;rw[q9 d];rfl;exact((r.setCell ur _).setCell ur _).setCell ur _
theorem qwk(a:Option Addr)(cap:Nat)(s:uj)(w:Ao):
  lz 86 #[C a 0 cap,Y s] w (vV nV):=by
 go_enter func86,ntmps86
 go_wp2
 refine wp_loop_rounds 1 ?_;rw[rounds_succ]
 go_wp2
 refine um ⟨rfl,uy.alloc ux _⟩
def jW(n:List UInt8):Bool:=decide (A n<=16)&&kD n
def pY(v:V):Bool:=
 if v.Q==0 then v.M==0&&v.str.isEmpty
 else if v.Q==1 then(v.M==0||v.M==1)&&v.str.isEmpty
 else if v.Q==2 then v.str.isEmpty
 else if v.Q==3 then v.M==0&&decide (A v.str<=20)
 else uh
theorem vQ(b:Bool)(w:Ao):lz 67 #[Ah b] w (vV (bV b)):=by
 cases b
 all_goals
  go_enter func67,ntmps67
  go_wp2
  refine bo (by simp[go_sem]<;>first|rfl|exact⟨rfl,rfl,rfl⟩) rfl ⟨rfl, ?_⟩
  repeat' (first|exact qM _ _ _|refine Below.setCell ?_ ur _)
theorem qka(x:V)(w:Ao):lz 97 #[vV x] w (vV (yR x)):=by
 unfold yR
 cases hk:(x.Q==1) with
 | true=>
  have i:(x.Q != 1)=uh:=by simp only[bne,hk];rfl
  simp only[vV];go_enter func97,ntmps97
  go_wp2_with(refine be (vQ _ _) λw' d=>?_;obtain⟨f,g⟩:=qi d;simp only[vV])
  refine bo (by simp[go_sem,f]<;>rfl) rfl ⟨rfl, ?_⟩;exact((((qg (qM _ _ _) d).setCell ur _).setCell ur _).setCell ur _)
 | false=>
  simp only[vV];go_enter func97,ntmps97
  go_wp2
  refine bo (by simp[go_sem]<;>first|rfl|exact⟨rfl,rfl,rfl⟩) rfl ⟨rfl, ?_⟩
  repeat' (first|exact qM _ _ _|refine Below.setCell ?_ ur _)
theorem qcn(x y:V)(w:Ao):lz 136 #[vV x,vV y] w (vV (eqV x y)):=by
 have g:=λw=>qit x y w
 simp only[vV]at g;unfold eqV;generalize decide (x=y)=d at *
 cases h0:(x.Q==0) with
 | true=>
  simp only[Bool.true_or,if_true,vV];go_enter func136,ntmps136
  go_wp2
  refine bo (by simp[go_sem]<;>first|rfl|exact⟨rfl,rfl,rfl⟩) rfl ⟨rfl, ?_⟩
  repeat' (first|exact jK _ _ _ _|refine Below.setCell ?_ ur _)
 | false=>
  cases h1:(x.Q==y.Q) with
  | false=>
   have j:(x.Q != y.Q)=ui:=by simp only[bne,h1];rfl
   simp only[oe,sn,if_true,vV];go_enter func136,ntmps136
   go_wp2
   refine bo (by simp[go_sem]<;>first|rfl|exact⟨rfl,rfl,rfl⟩) rfl ⟨rfl, ?_⟩
   repeat' (first|exact jK _ _ _ _|refine Below.setCell ?_ ur _)
  | true=>
   simp only[oe,rq,dk,if_false,vV];go_enter func136,ntmps136
   go_wp2_with(refine be (vQ _ _) λw' f=>?_;obtain⟨o,m⟩:=qi f;have l:Z w.1+2<Z w'.1:=(by have:=f.size;simp at this;omega);have i:Xb w w':=(by first|exact qg (jK _ _ _ _) f|exact qg (by assumption) f);simp only[vV])
   refine bo (by simp[go_sem, *]<;>rfl) rfl ⟨rfl, ?_⟩;exact(((i.setCell ut _).setCell ut _).setCell ut _)
theorem qrq{M:Int}(d:0<b)(f:0<=M):a<=M.tdiv b↔a * b<=M:=by
 grind[Int.le_ediv_iff_mul_le]
theorem vqn(f:0<a)(d:0<b):decide (a<=Int.tdiv 9223372036854775807 b)=yh (a * b):=by
 have h:=qrq (a:=a) (M:=9223372036854775807) d uu;have hp:0<a * b:=Int.mul_pos f d
 grind[yh]
theorem vqm(f:a<0)(d:b<0):decide (a≥Int.tdiv 9223372036854775807 b)=yh (a * b):=by
 have h:=qrq (a:=-a) (b:=-b) (M:=9223372036854775807) uq uu;rw[Int.neg_mul_neg,Int.tdiv_neg]at h;have hp:0<a * b:=Int.mul_pos_of_neg_of_neg f d;unfold yh
 grind
theorem qmn(d:0<a)(f:b<0):decide (b≥Int.tdiv (-9223372036854775808) a)=yh (a * b):=by
 have h:=qrq (a:=-b) (b:=a) (M:=9223372036854775808) d uu;have hp:a * b<0:=Int.mul_neg_of_pos_of_neg d f;unfold yh;rw[de (show a * b<=9223372036854775807 by omega),nl]
 have:b≥Int.tdiv (-9223372036854775808) a↔-9223372036854775808<=a * b:=by
  rw[Int.neg_tdiv];constructor
  grind
  grind
 simp only[this]
theorem qi5(d:0<a):wrap64 (-Int.tdiv 9223372036854775808 a)=Int.tdiv (-9223372036854775808) a:=by
 have g:0<=Int.tdiv 9223372036854775808 a:=Int.tdiv_nonneg uu uq
 have f:Int.tdiv 9223372036854775808 a<=9223372036854775808:=by
  rw[Int.tdiv_eq_ediv_of_nonneg uu];exact Int.ediv_le_self _ uu
 rw[Int.neg_tdiv]
 grind[kg,yh]
theorem vgh(d:b<0):wrap64 (Int.tdiv 9223372036854775807 b)=Int.tdiv 9223372036854775807 b:=by
 have e:Int.tdiv 9223372036854775807 b=-Int.tdiv 9223372036854775807 (-b):=by rw[Int.tdiv_neg,Int.neg_neg]
 have g:0<=Int.tdiv 9223372036854775807 (-b):=Int.tdiv_nonneg uu uq
 have f:Int.tdiv 9223372036854775807 (-b)<=9223372036854775807:=by
  rw[Int.tdiv_eq_ediv_of_nonneg uu];exact Int.ediv_le_self _ uu
 grind[kg,yh]
def vgs(a b:Int)(w:Ao)(e:Ending)(w':Ao):Prop:=∃n ok,e=Ak (Aj #[I J n,Ah ok])/\ok=yh (a * b)/\(yh (a * b)=ui->n=a * b)/\w'=w
theorem qp1(a b:Int)(m:Rng a)(l:Rng b)(w:Ao):uo 189 #[I J a,I J b] w (vgs a b w):=by
 unfold Rng at m l;obtain⟨y,t⟩:=m;obtain⟨A,z⟩:=l
 by_cases h0:a=0\/b=0
 .by_cases ha0:a=0
  .subst ha0
   go_enter func189,ntmps189
   go_wp2
   go_ret2
   exact⟨_,_,rfl,by rw[Int.zero_mul];rfl,λ_=>(Int.zero_mul b).symm,rfl⟩
  have s:b=0:=uq;subst s;go_enter func189,ntmps189
  go_wp2
  go_ret2
  exact⟨_,_,rfl,by rw[Int.mul_zero];rfl,λ_=>(Int.mul_zero a).symm,rfl⟩
 have x:(a==0)=uh:=aw.2 uq;have u:(b==0)=uh:=aw.2 uq
 by_cases am:a=-1
 .subst am
  have e:-1 * b=-b:=uq
  by_cases bl:b=-9223372036854775808
  .subst bl
   go_enter func189,ntmps189
   go_wp2
   go_ret2
   exact⟨_,_,rfl,rfl,(λh=>absurd h uu),rfl⟩
  have q:(b != -9223372036854775808)=ui:=by simpa using bl
  have g:=qd e;have j:Hid (yh (-b)=ui):=qd (by simp[yh];omega);go_enter func189,ntmps189
  go_wp2
  go_ret2
  exact⟨_,_,rfl,by rw[q9 g,q9 j],λ_=>by rw[q9 g],rfl⟩
 by_cases bm:b=-1
 .subst bm
  have e:a * -1=-a:=uq
  by_cases al:a=-9223372036854775808
  .subst al
   go_enter func189,ntmps189
   go_wp2
   go_ret2
   exact⟨_,_,rfl,rfl,(λh=>absurd h uu),rfl⟩
  have r:(a != -9223372036854775808)=ui:=by simpa using al
  have g:=qd e;have j:Hid (yh (-a)=ui):=qd (by simp[yh];omega);go_enter func189,ntmps189
  go_wp2
  go_ret2
  exact⟨_,_,rfl,by rw[q9 g,q9 j],λ_=>by rw[q9 g],rfl⟩
 have i:Hid (yh (a * b)=ui->wrap64 (a * b)=a * b):=qd λh=>kg h
 by_cases ap:0<a
 .by_cases bp:0<b
  .have d:=vqn ap bp
   rw[Int.tdiv_eq_ediv_of_nonneg uu]at d;have f:=qd d;clear d h0;go_enter func189,ntmps189
   go_wp2
   go_ret2
   exact⟨_,_,rfl,q9 f,q9 i,rfl⟩
  have d:=qmn ap (show b<0 by omega);rw[<-qi5 ap]at d;have f:=qd d;clear d h0;go_enter func189,ntmps189
  go_wp2
  go_ret2
  exact⟨_,_,rfl,q9 f,q9 i,rfl⟩
 have o:a<0:=uq
 by_cases bp:0<b
 .have d:=qmn bp o
  rw[<-qi5 bp,Int.mul_comm]at d;have f:=qd d;clear d h0;go_enter func189,ntmps189
  go_wp2
  go_ret2
  exact⟨_,_,rfl,q9 f,q9 i,rfl⟩
 have bn:b<0:=uq;have d:=vqm o bn;rw[<-vgh (show b<0 by omega)]at d;have f:=qd d;clear d h0;go_enter func189,ntmps189
 go_wp2
 go_ret2
 exact⟨_,_,rfl,q9 f,q9 i,rfl⟩
theorem qba(op:uj)(x y:V)(h:jO x y=uh)(w:Ao):Calls prog 133 #[Y op,vV x,vV y] w λe w'=>e=Ak (vV nV)/\Xb w w':=by
 conv=>arg 3;simp only[vV]
 by_cases hx:x.Q=2
 .have d:(x.Q != 2)=uh:=by simp[hx]
  have f:(y.Q != 2)=ui:=by unfold jO at h;simp[hx]at h;simpa using h
  go_enter func133,ntmps133
  go_wp2
  refine bo (by simp[go_sem]<;>first|rfl|exact⟨rfl,rfl,rfl⟩) rfl ⟨rfl, ?_⟩
  repeat' (first|exact jK _ _ _ _|refine Below.setCell ?_ ur _)
 have d:(x.Q != 2)=ui:=by simpa using hx
 go_enter func133,ntmps133
 go_wp2
 refine bo (by simp[go_sem]<;>first|rfl|exact⟨rfl,rfl,rfl⟩) rfl ⟨rfl, ?_⟩
 repeat' (first|exact jK _ _ _ _|refine Below.setCell ?_ ur _)
theorem qf1(x y:V):jO y x=jO x y:=by grind[jO]
theorem pQ{x y r:V}{d:uj}(w:Ao)(g:d=⟨#[60]⟩/\r=kC x y\/d=⟨#[60,61]⟩/\r=leV x y\/d=⟨#[62]⟩/\r=kC y x\/d=⟨#[62,61]⟩/\r=leV y x):Calls prog 133 #[Y d,vV x,vV y] w λe w'=>e=Ak (vV r)/\Xb w w':=by
 cases h:jO x y with
 | false=>
  have e:r=nV:=by obtain⟨_,rfl⟩|⟨_,rfl⟩|⟨_,rfl⟩|⟨_,rfl⟩:=g<;>simp[kC,leV,qf1,h]
  rw[e];exact qba _ x y h w
 | true=>
  have o:kC x y=bV (decide (x.M<y.M)):=by unfold kC;rw[h];rfl
  have m:leV x y=bV (decide (x.M<=y.M)):=by unfold leV;rw[h];rfl
  have l:kC y x=bV (decide (y.M<x.M)):=by unfold kC;rw[qf1,h];rfl
  have j:leV y x=bV (decide (y.M<=x.M)):=by unfold leV;rw[qf1,h];rfl
  have z:(x.Q != 2)=uh:=by unfold jO at h;simp at h;simp[h.1]
  have u:(y.Q != 2)=uh:=by unfold jO at h;simp at h;simp[h.2]
  rw[o,m,l,j]at g
  conv=>arg 3;simp only[vV]
  obtain⟨rfl,rfl⟩|⟨rfl,rfl⟩|⟨rfl,rfl⟩|⟨rfl,rfl⟩:=g
  all_goals
   go_enter func133,ntmps133
   go_wp2_with(refine be (vQ _ _) λw' f=>?_;obtain⟨t,s⟩:=qi f;have q:Z w.1+2<Z w'.1:=(by have:=f.size;simp at this;omega);have i:Xb w w':=(by first|exact qg (jK _ _ _ _) f|exact qg (by assumption) f);simp only[vV])
   refine bo (by simp[go_sem, *]<;>rfl) rfl ⟨rfl, ?_⟩;exact(((i.setCell ut _).setCell ut _).setCell ut _)
end Go.Proofs.YtmepkbgodcffoaaGreatDoor
