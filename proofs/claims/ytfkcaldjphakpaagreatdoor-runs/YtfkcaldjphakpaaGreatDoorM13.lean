/- Patterns -/
import Derived.Deep.QuietTactic
import Derived.BigQuiet
import Derived.Deep.RegionWith
import Derived.Deep.RegionHeld3
import Derived.Deep.DeepCutAuto
import Derived.Test.YtfkcaldjphakpaaGreatDoorM06
set_option maxHeartbeats 16000000
set_option maxRecDepth 100000
namespace Go.Proofs.YtfkcaldjphakpaaGreatDoor
open Go.RowKit Go.Proofs.Tryz
variable{a b:Int}{e p:mv}{xs:List Value}{B F base cap k n off size:Nat}{o:Obj}{c:UInt8}{r x y:V}{v:Value}{W w w' w1 w2:World}
section
structure Pc where
 kind:Int
 c:UInt8
def pcV(p:Pc):Value:=.agg #[.int .i64 p.kind,.int .u8 p.c.toNat]
def vD(c:UInt8):Pc:=if((c.toNat:Int)==37)=true then⟨2,0⟩ else if((c.toNat:Int)==95)=true then⟨1,0⟩ else⟨0,c⟩
theorem qhk(c:UInt8)(w:World):
  nz 250 #[.int .u8 c.toNat] w λe w'=>e=.returned (pcV (vD c))/\Xb w w':=by
 unfold vD;cases h1:((c.toNat:Int)==37)
 ·cases h2:((c.toNat:Int)==95)
  ·simp only[cu,if_false]
   go_enter func250,ntmps250
   go_wp2_with fail
   refine nx ⟨rfl,nw.alloc nt _⟩
  ·simp only[cu,if_false,if_true]
   go_enter func250,ntmps250
   go_wp2_with fail
   refine nx ⟨rfl,nw.alloc nt _⟩
 ·simp only[if_true]
  go_enter func250,ntmps250
  go_wp2_with fail
  refine nx ⟨rfl,nw.alloc nt _⟩
def zi(e:List UInt8):List UInt8->Option (List Pc)
 | []=>some []
 | [c]=>if e.head?=some c then none else some [vD c]
 | c::d::t=>if e.head?=some c then(zi e t).map (⟨0,d⟩::·) else(zi e (d::t)).map (vD c::·)
theorem pQ(h:p[k]?=some c)(f:¬e.head?=some c):zi e (p.drop k)=(zi e (p.drop (k+1))).map (vD c::·):=by
 obtain⟨g,i⟩:=au.1 h;rw[ce g,i]
 cases hd:p.drop (k+1) with
 | nil=>show(if e.head?=some c then none else some [vD c])=_;rw[aj f];rfl
 | cons d t=>rw[zi,aj f]
theorem qe6{d:UInt8}(h:p[k]?=some c)(f:e.head?=some c)(j:p[k+1]?=some d):zi e (p.drop k)=(zi e (p.drop (k+2))).map (⟨0,d⟩::·):=by
 obtain⟨g,i⟩:=au.1 h;obtain⟨m,l⟩:=au.1 j;rw[ce g,i,ce m,l,zi,bh f]
theorem qbc(h:p[k]?=some c)(f:e.head?=some c)(j:p.length<=k+1):zi e (p.drop k)=none:=by
 obtain⟨g,i⟩:=au.1 h;rw[ce g,i,di j,zi,bh f]
theorem qe5(h:p.length<=k):zi e (p.drop k)=some []:=by
 rw[di h,zi]
def xn(ps:List Pc):List Value:=ps.flatMap λp=>[.int .i64 p.kind,.int .u8 p.c.toNat]
theorem qhj(f:List Pc)(p:Pc):xn (f++[p])=xn f++[.int .i64 p.kind,.int .u8 p.c.toNat]:=by simp[xn]
end
section
theorem qqb:(prog.info? 262).map (λi=>(i.zero,i.size,i.bytes))=some (some (.agg #[.int .i64 0,.int .u8 0]),2,16):=nl
def vf1(w:World)(r:Option (List Pc))(e:Ending)(w':World):Prop:=
 Below w.heap.size w w'/\match r with
 | none=>e=.returned (.tuple #[.slice none 0 0,.bool false])
 | some ps=>∃v,e=.returned (.tuple #[v,.bool true])/\w'.ownsRow w.heap.size 262 2 v ps.length (xn ps)
theorem qq{e:Nat}(h:w.ownsRow base e size v n xs)(j:Below B w w')(m:w.heap.size<=B):w'.ownsRow base e size v n xs:=by
 refine⟨h.1, ?_⟩;rcases h.2 with i|⟨g,cap,cur,rfl,l,f,rest⟩
 ·exact .inl i
 ·refine .inr ⟨g,cap,cur,rfl,l, ?_,rest⟩
  rw[j.block g (by have:=(cg.1 f).1;omega)];exact f
theorem qkk{e:Nat}(h:w.ownsRow base e size v n xs):∀k,v.ownBlock=some k->base<=k:=λk f=>(h.lt k f).1
theorem Below.grown{a:World}{row:Option Nat}(h:Below B a w)(f:w.grownBy w' row)(j:B<=w.heap.size)(i:∀k,row=some k->B<=k):Below B a w':=
 ⟨f.os.trans h.os,f.tape.trans h.tape,f.output.trans h.output,bs h.size f.size,λk g=>(f.block k mw (λe=>by have:=i k e.symm;omega)).trans (h.block k g)⟩
theorem qe8{wr:World}{e:Nat}{v':Value}{f:List Pc}{q:Pc}(l:w2.ownsRow w.heap.size e 2 v' (f.length+1) (xn f++[.int .i64 q.kind,.int .u8 q.c.toNat]))(m:(w1.alloc o).grownBy w2 v.ownBlock)
  (j:w1.ownsRow w.heap.size e 2 v f.length (xn f)) (g:Xb w wr) (i:Xb wr w1) :
  w2.ownsRow w.heap.size e 2 v' (f++[q]).length (xn (f++[q]))/\Xb w w2:=by
 have t:=g.size;have s:=i.size;refine⟨by rw[qhj,bu];exact l, ?_⟩;exact Below.grown ((qf g i).alloc mw o) m my (qkk j)
theorem qjh(p e:mu)(hp:p.size<=200)(w:World):
  nz 203 #[.string p,.string e] w (vf1 w (zi e.data.toList p.data.toList)):=by
 obtain⟨R,T⟩:∃r,zi e.data.toList p.data.toList=r:=⟨_,rfl⟩;rw[T];have HR:=qd T;clear T;obtain⟨P,Q,U,M,O⟩:=info_parts qqb;go_enter func203,ntmps203
 go_wp2_with fail
 go_loopw [6,7] (λv i wr=>∃(k:Nat) (t:List Pc),k<=p.size/\t.length<=k/\i=.int .i64 k/\Hid (R=(zi e.data.toList (p.data.toList.drop k)).map (t++·))/\wr.ownsRow w.heap.size 262 2 v t.length (xn t)/\Xb w wr) (λ_ i _=>p.size - (intOf i).toNat)
 case atStart=>exact⟨0,[],bj _,bj _,rfl,qd (by rw[db,q9 HR];cases R<;>rfl),ed _ _ _ _,nw⟩
 case round=>
  obtain⟨k,t,hk,lZ,rfl,m,G,I⟩:=hrel;have F8:=I.size
  by_cases A0:k<p.size
  ·have D:p.data.toList[k]?=some p[k]:=by rw[ag (by rw[qr];exact A0),qy p k A0]
   have plainCase:¬e.data.toList.head?=some p[k]->Hid (R=(zi e.data.toList (p.data.toList.drop (k+1))).map ((t++[vD p[k]])++·)):=λZ=>qd (by rw[q9 m,pQ D Z];cases zi e.data.toList (p.data.toList.drop (k+1))<;>simp)
   by_cases he:0<e.size
   ·have Y:=pD he
    have J:e.data.toList.head?=some e[0]:=by
     have:=ag (l:=e.data.toList) (i:=0) (by rw[qr];exact he);rw[qy e 0 he]at this;rw[List.head?_eq_getElem?];exact this
    cases hx:(p[k]==e[0]) with
    | false=>
     have s:=plainCase (by rw[J];intro h;injection h with h;rw[h]at hx;simp at hx);have G6:((p[k].toNat:Int)==(e[0].toNat:Int))=false:=by rw[yA];exact hx
     clear plainCase m D J hx
     go_wp2_with fail
     go_quiet (fail)
     go_wp2_with(first|(go_at_call 250;refine(qhk p[k] _).mono ?_;rintro en w1⟨rfl,K⟩;have H:Xb wr w1:=(below_drewN (Below.refl _ wr) _).trans K;clear K;have B9:=H.size;have g:=qq G H nt;simp only[pcV])|(at_builtin;refine wpList_append_own _ rfl _ _ 256 rfl w.heap.size 262 P (.agg #[.int .i64 0,.int .u8 0]) 2 16 underlying256 Q U M O rfl nh _ _ _ rfl (g.alloc _) ⟨w1.heap.size,0,none⟩ 1 1 [.int .i64 (vD p[k]).kind,.int .u8 (vD p[k]).c.toNat] rfl rfl ?c1 ?c2 ?c3 ?c4 ?c5 ?_))
     case c1=>
      intro j u f
      match j,f with
      | 0,f=>simp at f;subst f;simp[Addr.add]
      | 1,f=>simp at f;subst f;simp[Addr.add]
      | j+2,f=>simp at f
     case c2=>intro u z;simp at z;rcases z with rfl|rfl<;>rfl
     case c3=>unfold maxLen;omega
     case c4=>omega
     case c5=>simp;omega
     ·intro v' w2 A C _
      have R:=qe8 A C g I H;clear A C G g
      go_wp2
      go_roundw
      case rel=>exact⟨k+1,_,mw,my,by go_num,s,R.1,R.2⟩
      case measure=>simp[intOf];omega
    | true=>
     have L:e.data.toList.head?=some p[k]:=by rw[J,dg.1 hx]
     have G6:((p[k].toNat:Int)==(e[0].toNat:Int))=true:=by rw[yA];exact hx
     by_cases hl:k+1<p.size
     ·have X:p.data.toList[k+1]?=some p[k+1]:=by rw[ag (by rw[qr];exact hl),qy p (k+1) hl]
      have s:Hid (R=(zi e.data.toList (p.data.toList.drop (k+2))).map ((t++[⟨0,p[k+1]⟩])++·)):=qd (by rw[q9 m,qe6 D L X];cases zi e.data.toList (p.data.toList.drop (k+2))<;>simp);clear plainCase m D J hx X L;have G7:(((k:Int)+1)==(p.size:Int))=false:=ae.2 mw
      go_wp2_with fail
      go_quiet (fail)
      have g:=qq G (below_drewN (Below.refl _ wr) nq) nt
      go_wp2_with(first|(at_builtin;refine wpList_append_own _ rfl _ _ 256 rfl w.heap.size 262 P (.agg #[.int .i64 0,.int .u8 0]) 2 16 underlying256 Q U M O rfl nh _ _ _ rfl (g.alloc _) ⟨wr.heap.size,0,none⟩ 1 1 [.int .i64 0,.int .u8 p[k+1].toNat] rfl rfl ?c1 ?c2 ?c3 ?c4 ?c5 ?_))
      case c1=>
       intro j u f
       match j,f with
       | 0,f=>simp at f;subst f;simp[Addr.add];exact(cd (w:=wr.drewN nq) _ _ _ _ rfl).trans rfl
       | 1,f=>simp at f;subst f;simp[Addr.add];exact(cd (w:=wr.drewN nq) _ _ _ _ rfl).trans rfl
       | j+2,f=>simp at f
      case c2=>intro u z;simp at z;rcases z with rfl|rfl<;>rfl
      case c3=>unfold maxLen;omega
      case c4=>omega
      case c5=>simp;omega
      ·intro v' w2 A C _
       have R:=qe8 (q:=⟨0,p[k+1]⟩) A C g I (below_drewN (Below.refl _ wr) nq);clear A C G g
       go_wp2
       go_roundw
       case rel=>exact⟨k+2,_,mw,my,by go_num,s,R.1,R.2⟩
       case measure=>simp[intOf];omega
     ·have s:Hid (R=none):=qd (by rw[q9 m,qbc D L (by rw[qr];omega)];rfl)
      clear plainCase m D J hx L;have G7:(((k:Int)+1)==(p.size:Int))=true:=dg.2 mw
      go_wp2_with fail
      go_quiet (fail)
      go_wp2_with fail
      go_ret2
      rw[q9 s];exact⟨below_drewN I _,rfl⟩
   ·have PH:e=⟨#[]⟩:=by cases e with|mk d=>simp[ByteArray.size]at he;simp[he]
    subst PH;have s:=plainCase mx;clear plainCase m D he
    go_wp2_with fail
    go_quiet (fail)
    go_wp2_with(first|(go_at_call 250;refine(qhk p[k] _).mono ?_;rintro en w1⟨rfl,K⟩;have H:Xb wr w1:=(below_drewN (Below.refl _ wr) _).trans K;clear K;have B9:=H.size;have g:=qq G H nt;simp only[pcV])|(at_builtin;refine wpList_append_own _ rfl _ _ 256 rfl w.heap.size 262 P (.agg #[.int .i64 0,.int .u8 0]) 2 16 underlying256 Q U M O rfl nh _ _ _ rfl (g.alloc _) ⟨w1.heap.size,0,none⟩ 1 1 [.int .i64 (vD p[k]).kind,.int .u8 (vD p[k]).c.toNat] rfl rfl ?c1 ?c2 ?c3 ?c4 ?c5 ?_))
    case c1=>
     intro j u f
     match j,f with
     | 0,f=>simp at f;subst f;simp[Addr.add]
     | 1,f=>simp at f;subst f;simp[Addr.add]
     | j+2,f=>simp at f
    case c2=>intro u z;simp at z;rcases z with rfl|rfl<;>rfl
    case c3=>unfold maxLen;omega
    case c4=>omega
    case c5=>simp;omega
    ·intro v' w2 A C _
     have R:=qe8 A C g I H;clear A C G g
     go_wp2
     go_roundw
     case rel=>exact⟨k+1,_,mw,my,by go_num,s,R.1,R.2⟩
     case measure=>simp[intOf];omega
  ·have s:Hid (R=some t):=qd (by rw[q9 m,qe5 (by rw[qr];omega)];simp)
   clear m
   go_wp2_with fail
   go_ret2
   rw[q9 s];exact⟨I,_,rfl,G⟩
theorem qyd(p e:mu)(j:p.size<=200)(w:World):
  nz 332 #[.string p,.string e] w λg w'=>g=.returned (.bool (zi e.data.toList p.data.toList).isSome)/\Xb w w':=by
 cases hc:zi e.data.toList p.data.toList with
 | none=>
  have h:=qd hc;clear hc;go_enter func332,ntmps332
  go_wp2_with(go_at_call 203;refine(qjh p e j _).mono ?_;rintro g w1⟨i,f⟩;rw[q9 h]at f;subst f)
  go_ret;exact⟨rfl,i⟩
 | some ps=>
  have h:=qd hc;clear hc;go_enter func332,ntmps332
  go_wp2_with(go_at_call 203;refine(qjh p e j _).mono ?_;rintro g w1⟨i,f⟩;rw[q9 h]at f;obtain⟨v,rfl,l⟩:=f;clear l)
  go_ret;exact⟨rfl,i⟩
end
section
def xp(n:Int):Bool:=decide (-9223372036854775808<=n)&&decide (n<=9223372036854775807)
def Rng(n:Int):Prop:=-9223372036854775808<=n/\n<=9223372036854775807
def qiq(x y:V):V:=if jr x y&&xp (x.num+y.num) then iV (x.num+y.num) else nV
def qrs(x y:V):V:=if jr x y&&xp (x.num - y.num) then iV (x.num - y.num) else nV
def qir(x y:V):V:=if jr x y&&xp (x.num * y.num) then iV (x.num * y.num) else nV
def qq0(x y:V):V:=if jr x y&&!(y.num==0)&&xp (x.num.tdiv y.num) then iV (x.num.tdiv y.num) else nV
theorem xY{n:Int}(h:xp n=true):wrap64 n=n:=by
 simp[xp]at h;unfold wrap64;omega
theorem qyu(g:Rng a)(f:Rng b):((decide (wrap64 (a+b)<a)) != (decide (b<0)))=!xp (a+b):=by
 unfold Rng at g f;rw[fq];simp[xp,wrap64];omega
theorem vd9(g:Rng a)(f:Rng b):((decide (a<wrap64 (a - b))) != (decide (b<0)))=!xp (a - b):=by
 unfold Rng at g f;rw[fq];simp[xp,wrap64];omega
theorem qpa{n:Int}(x y:V)(w:World)(i:F=159/\n=x.num+y.num/\(decide (wrap64 n<x.num) != decide (y.num<0))=!xp n\/F=160/\n=x.num - y.num/\(decide (x.num<wrap64 n) != decide (y.num<0))=!xp n):
  Calls prog F #[vV x,vV y] w λe w'=>e=.returned (vV (if jr x y&&xp n then iV n else nV))/\Xb w w':=by
 have s:Hid (xp n=true->wrap64 n=n):=qd xY;simp only[bne]at i;generalize xp n=f at *;cases hk:jr x y<;>cases f
 all_goals
  have t:=qd hk;clear hk;simp only[ig,fj,cu,if_true,if_false,ma,mq]at i ⊢
  conv=>arg 3;simp only[vV]
  rcases i with⟨rfl,rfl,m⟩|⟨rfl,rfl,m⟩
  all_goals
   first|go_enter func159,ntmps159|go_enter func160,ntmps160
   go_wp2_with(first|(go_at_call 153;refine(xO x y _).mono ?_;rintro e w1⟨rfl,j⟩;rw[q9 t];obtain⟨u,A⟩:=qj j;have z:w.heap.size+2<w1.heap.size:=(by have:=j.size;simp at this;omega))|(go_at_call 62;rw[q9 s (by trivial)];refine(yT _ _).mono ?_;rintro e w2⟨rfl,g⟩;obtain⟨l,q⟩:=qj g;simp only[vV])|(go_at_call 152;refine(jI _).mono ?_;rintro e w2⟨rfl,g⟩;obtain⟨l,q⟩:=qj g;simp only[vV]))
   refine ak (by simp[go_sem,l,u,z]<;>rfl) rfl ⟨rfl, ?_⟩;exact((((qf (qf (jS _ _ _ _) j) g).setCell my _).setCell my _).setCell my _)
theorem qp5(x y:V)(g:Rng x.num)(f:Rng y.num)(w:World):nz 159 #[vV x,vV y] w λe w'=>e=.returned (vV (qiq x y))/\Xb w w':=qpa x y w (.inl ⟨rfl,rfl,qyu g f⟩)
theorem pH(x y:V)(g:Rng x.num)(f:Rng y.num)(w:World):nz 160 #[vV x,vV y] w λe w'=>e=.returned (vV (qrs x y))/\Xb w w':=qpa x y w (.inr ⟨rfl,rfl,vd9 g f⟩)
end
section
theorem qb6{a:World}(h:Xb a w)(o:Obj):Xb a (w.alloc o):=h.alloc h.size o
theorem qp6(b:Bool)(w:World):
  nz 64 #[.bool b] w λe w'=>e=.returned (vV (bV b))/\w'=w.alloc (.cells #[.int .i64 (bV b).kind,.int .i64 (bV b).num,.string (BS (bV b).str)] 26):=by
 cases b
 all_goals
  go_enter func64,ntmps64
  go_wp2_with fail
  refine nx ⟨rfl,rfl⟩
abbrev vA(x:V):Array Value:=#[.int .i64 x.kind,.int .i64 x.num,.string (BS x.str)]
abbrev vZ:Array Value:=#[.int .i64 0,.int .i64 0,.string ⟨#[]⟩]
def vmr(o p:Bool)(x y:V):V:=if decide (x=bV o)||decide (y=bV o) then bV o else if decide (x=bV p)&&decide (y=bV p) then bV p else nV
def qg3(x y:V):V:=if decide (x=bV false)||decide (y=bV false) then bV false else if decide (x=bV true)&&decide (y=bV true) then bV true else nV
def orV(x y:V):V:=if decide (x=bV true)||decide (y=bV true) then bV true else if decide (x=bV false)&&decide (y=bV false) then bV false else nV
theorem vb2(w:World)(a b c:Array Value)(s t u:TypeId)(h:((w.alloc (.cells a s)).alloc (.cells b t)).alloc (.cells c u)=W):Xb w W/\W.heap.size=w.heap.size+3/\(∀i,W.cell? ⟨w.heap.size,i,none⟩=a[i]?)/\(∀i,W.cell? ⟨w.heap.size+1,i,none⟩=b[i]?)/\(∀i,W.cell? ⟨w.heap.size+2,i,none⟩=c[i]?)/\Xf W (w.heap.size+2):=by
 subst h;refine⟨((nw.alloc nt _).alloc mx _).alloc nj _,mx,λi=>?_,λi=>?_,λi=>cd _ _ _ _ mx,λi=>im _ _ _ _ mx⟩
 ·rw[bt _ _ _ my,bt _ _ _ mx];simp
 ·rw[bt _ _ _ mx];simp
theorem qem{K:Nat}{o p:Bool}(hF:F=106/\K=64/\o=false/\p=true\/F=154/\K=64/\o=true/\p=false\/F=220/\K=132/\o=false/\p=true\/F=221/\K=132/\o=true/\p=false)(HK:∀b w,Calls prog K #[.bool b] w λe w'=>e=.returned (vV (bV b))/\Xb w w')(x y:V)(w:World):Calls prog F #[vV x,vV y] w λe w'=>e=.returned (vV (vmr o p x y))/\Xb w w':=by
 have ex:=λw=>qgp x (bV o) w
 have ey:=λw=>qgp y (bV o) w
 have fx:=λw=>qgp x (bV p) w
 have fy:=λw=>qgp y (bV p) w
 have HT:=qd HK;simp only[vV]at ex ey fx fy HT;unfold vmr;generalize decide (x=bV o)=a at *;generalize decide (y=bV o)=b at *;generalize decide (x=bV p)=c at *;generalize decide (y=bV p)=d at *;generalize sP:((w.alloc (.cells (vA x) 26)).alloc (.cells (vA y) 26)).alloc (.cells vZ 26)=W0;obtain⟨aJ,eK,xc,yc,zc,zf⟩:=vb2 _ _ _ _ _ _ _ sP;have HW:=qd sP;have HB:Hid (Xb W0 W0.drew):=qd nw.drew;have SS:∀U,Xb W0 U->(∀i,U.cell? ⟨w.heap.size,i,none⟩=(vA x)[i]?)/\∀i,U.cell? ⟨w.heap.size+1,i,none⟩=(vA y)[i]?:=λU hU=>⟨λi=>((qj hU).1 _ i mw).trans (xc i),λi=>((qj hU).1 _ i mw).trans (yc i)⟩
 have RE:∀U,Xb W0 U->(∀i,U.cell? ⟨w.heap.size+2,i,none⟩=vZ[i]?)/\(Xf U (w.heap.size+2))/\w.heap.size+2<U.heap.size/\Xb w U:=λU hU=>⟨λi=>((qj hU).1 _ i mw).trans (zc i),λi=>((qj hU).2 _ i mw).trans (zf i),by have:=hU.size;omega,qf aJ hU⟩
 clear sP HK zc zf;obtain⟨z,h⟩:∃z,True/\a=true/\z=true\/a=false/\b=true/\z=true\/True/\a=false/\b=false/\z=false:=⟨a||b,by cases a<;>cases b<;>simp⟩;rcases h with⟨k0,rfl,hz⟩|⟨rfl,rfl,hz⟩|⟨k,rfl,rfl,hz⟩
 all_goals
  simp only[mn,io,cu,if_true,if_false]
  conv=>arg 3;simp only[vV]
  rcases hF with⟨rfl,rfl,rfl,rfl⟩|⟨rfl,rfl,rfl,rfl⟩|⟨rfl,rfl,rfl,rfl⟩|⟨rfl,rfl,rfl,rfl⟩
 all_goals
  first|go_enter func106,ntmps106|go_enter func154,ntmps154|go_enter func220,ntmps220|go_enter func221,ntmps221
  go_wp2_with fail
  rw[q9 HW]
  go_cut [5] (λs5 wx=>s5=.bool z/\Hid (Xb W0 wx))
  case first=>
   first | (have _q := k0; first | go_region_with ((first | go_at_call 64 | go_at_call 132); refine (HT _ _).mono ?_; rintro e w1 ⟨rfl, A1⟩; replace HB := qd (qf HB A1); obtain ⟨J2, dQ⟩ := SS _ HB; clear A1) | fail "no") | (go_region_held3 (fun W => (∀ i, W.cell? ⟨w.heap.size, i, none⟩ = (vA x)[i]?) ∧ ∀ i, W.cell? ⟨w.heap.size + 1, i, none⟩ = (vA y)[i]?) (first | with_reducible assumption | exact SS _ HB) (((first | go_at_call 64 | go_at_call 132); refine (HT _ _).mono ?_; rintro e w1 ⟨rfl, A1⟩; replace HB := qd (qf HB A1); have uB := SS _ HB; clear A1))) | fail "no"
   all_goals(go_wp2_with fail;go_meet;exact⟨by rw[hz],HB⟩)
  case rest=>
   obtain⟨rfl,HC⟩:=hcut;subst hz
   first
   | (
    have _q:=k;replace HB:=qd HC.drew;obtain⟨J2,dQ⟩:=SS _ HC;obtain⟨v,h⟩:∃v,True/\c=false/\v=false\/c=true/\d=false/\v=false\/c=true/\d=true/\v=true:=⟨c&&d,by cases c<;>cases d<;>simp⟩;rcases h with⟨k1,rfl,hv⟩|⟨rfl,rfl,hv⟩|⟨rfl,rfl,hv⟩
    all_goals
     go_wp2_with fail
     go_cut [15] (λs15 wx=>s15=.bool v/\Hid (Xb W0 wx))
     case first=>
      first | (have _q := k1; first | go_region_with ((first | go_at_call 64 | go_at_call 132); refine (HT _ _).mono ?_; rintro e w1 ⟨rfl, A1⟩; replace HB := qd (qf HB A1); obtain ⟨J2, dQ⟩ := SS _ HB; clear A1) | fail "no") | (go_region_held3 (fun W => (∀ i, W.cell? ⟨w.heap.size, i, none⟩ = (vA x)[i]?) ∧ ∀ i, W.cell? ⟨w.heap.size + 1, i, none⟩ = (vA y)[i]?) (first | with_reducible assumption | exact SS _ HB) (((first | go_at_call 64 | go_at_call 132); refine (HT _ _).mono ?_; rintro e w1 ⟨rfl, A1⟩; replace HB := qd (qf HB A1); have uB := SS _ HB; clear A1)))
      all_goals(go_wp2_with fail;go_meet;exact⟨by rw[hv],HB⟩)
     case rest=>
      clear HC J2 dQ;obtain⟨rfl,HC⟩:=hcut;subst hv;obtain⟨z1,z2,z3,z4⟩:=RE _ HC;have HZ:=qd z4;clear z4 SS xc yc HB
      go_wp2_with(first|((first|go_at_call 64|go_at_call 132);refine(HT _ _).mono ?_;rintro e w2⟨rfl,A3⟩;replace HZ:=qd (qf HZ A3);obtain⟨z1,z2,z3,_⟩:=RE _ (qf HC A3);clear A3)|(go_at_call 152;refine(jI _).mono ?_;rintro e w2⟨rfl,A3⟩;replace HZ:=qd (qf HZ A3);obtain⟨z1,z2,z3,_⟩:=RE _ (qf HC A3);clear A3;simp only[vV]))
      refine ak (by simp[go_sem,z1]<;>first|rfl|exact⟨rfl,rfl,rfl⟩) rfl ⟨rfl, ?_⟩
      exact((HZ.setCell (by first|omega|(simp<;>omega)) _).setCell (by first|omega|(simp<;>omega)) _).setCell (by first|omega|(simp<;>omega)) _)
   | (
    obtain⟨z1,z2,z3,z4⟩:=RE _ HC;have HZ:=qd z4;clear z4 SS xc yc HB
    go_wp2_with(first|((first|go_at_call 64|go_at_call 132);refine(HT _ _).mono ?_;rintro e w2⟨rfl,A3⟩;replace HZ:=qd (qf HZ A3);obtain⟨z1,z2,z3,_⟩:=RE _ (qf HC A3);clear A3)|(go_at_call 152;refine(jI _).mono ?_;rintro e w2⟨rfl,A3⟩;replace HZ:=qd (qf HZ A3);obtain⟨z1,z2,z3,_⟩:=RE _ (qf HC A3);clear A3;simp only[vV]))
    refine ak (by simp[go_sem,z1]<;>first|rfl|exact⟨rfl,rfl,rfl⟩) rfl ⟨rfl, ?_⟩
    exact((HZ.setCell (by first|omega|(simp<;>omega)) _).setCell (by first|omega|(simp<;>omega)) _).setCell (by first|omega|(simp<;>omega)) _)
theorem vde(x y:V)(w:World):nz 106 #[vV x,vV y] w λe w'=>e=.returned (vV (qg3 x y))/\Xb w w':=qem (.inl ⟨rfl,rfl,rfl,rfl⟩) zb x y w
theorem vif(x y:V)(w:World):nz 154 #[vV x,vV y] w λe w'=>e=.returned (vV (orV x y))/\Xb w w':=qem (.inr (.inl ⟨rfl,rfl,rfl,rfl⟩)) zb x y w
end
section
theorem qru(p b:Int)(f:b≠0):∃r,p=b * p.tdiv b+r/\r.natAbs<b.natAbs:=by
 refine⟨p.tmod b,(Int.mul_tdiv_add_tmod p b).symm, ?_⟩;rw[Int.natAbs_tmod];exact Nat.mod_lt _ (Int.natAbs_pos.2 f)
theorem qdr(p b:Int)(j:b≠-1)(f:Rng p):Rng (p.tdiv b):=by
 have h:=Int.natAbs_tdiv_le_natAbs p b;unfold Rng at f ⊢
 by_cases hm:p=-9223372036854775808
 ·by_cases h1:b=1
  ·rw[h1,Int.tdiv_one];exact f
  ·by_cases h0:b=0
   ·rw[h0,Int.tdiv_zero];omega
   ·have i:=Int.natAbs_tdiv p b
    have g:p.natAbs.div b.natAbs<=p.natAbs / 2:=Nat.div_le_div_left mw mw;omega
 ·omega
theorem qg0{n:Int}(h:Rng n):wrap64 n=n:=by
 unfold Rng at h;unfold wrap64;omega
theorem qnx(n:Int):Rng (wrap64 n):=by
 unfold Rng wrap64;omega
theorem qeb(n:Int):xp n=true↔Rng n:=by simp[xp,Rng]
theorem vaz(i:Rng a)(z:Rng b)(j:b≠0):
  ((a==-9223372036854775808&&b==-1)||!(wrap64 ((wrap64 (a * b)).tdiv b)==a))=!xp (a * b):=by
 cases hf:xp (a * b) with
 | true=>
  have f:=(qeb _).1 hf;have e:wrap64 (a * b)=a * b:=qg0 f;have t:(a * b).tdiv b=a:=Int.mul_tdiv_cancel a j;rw[e,t,qg0 i]
  have:¬(a=-9223372036854775808/\b=-1):=by
   rintro⟨rfl,rfl⟩;unfold Rng at f;omega
  simp;intro g s;exact this ⟨g,s⟩
 | false=>
  have l:¬Rng (a * b):=λh=>by rw[(qeb _).2 h]at hf;cases hf
  by_cases g:b=-1
  ·have:a=-9223372036854775808:=by
    subst g;unfold Rng at l i;omega
   simp[g,this]
  ·have u:=qdr (wrap64 (a * b)) b g (qnx _)
   rw[qg0 u];obtain⟨r,f,A⟩:=qru (wrap64 (a * b)) b j
   have:¬(wrap64 (a * b)).tdiv b=a:=by
    intro q;rw[q,Int.mul_comm b a]at f;generalize a * b=m at *;unfold Rng at *;unfold wrap64 at f;omega
   simp[this]
theorem qn3(f:Rng a):(a==-9223372036854775808&&b==-1)=!xp (a.tdiv b):=by
 by_cases h1:b=-1
 ·subst h1
  have e:a.tdiv (-1)=-a:=by rw[Int.tdiv_neg,Int.tdiv_one]
  rw[e,fq];simp[xp];unfold Rng at f;omega
 ·have:=(qeb _).2 (qdr a b h1 f)
  rw[this];simp;intro _;exact h1
end
section
theorem quj(a b:Int)(w:World):
  nz 205 #[.int .i64 a,.int .i64 b] w λe w'=>e=.returned (.bool (a==-9223372036854775808&&b==-1))/\w'=w:=by
 go_enter func205,ntmps205
 go_wp2_with fail
 all_goals(go_ret;exact⟨qR nj,rfl⟩)
theorem qh2{v:Bool}(h:(a==-9223372036854775808&&b==-1)=v)(w:World):
  nz 205 #[.int .i64 a,.int .i64 b] w λe w'=>e=.returned (.bool v)/\w'=w:=by
 rw[←h];exact quj a b w
theorem qmh(x y:V)(s:Rng x.num)(w:World):
  Calls prog 162 #[vV x,vV y] w λe w'=>e=.returned (vV (qq0 x y))/\Xb w w':=by
 have l:=qn3 (b:=y.num) s;unfold qq0;have u:Hid (xp (x.num.tdiv y.num)=true->wrap64 (x.num.tdiv y.num)=x.num.tdiv y.num):=qd xY;have j:(y.num==0)=false->¬y.num=0:=λh=>by simpa using h
 generalize xp (x.num.tdiv y.num)=f at *;have q:=qd l;clear l;cases hk:jr x y<;>cases h0:(y.num==0)<;>cases f
 all_goals
  have z:=qd hk
  try have j:=j h0
  clear hk;simp only[ma,mq,ig,fj,cu,if_true,if_false]at q ⊢
  conv=>arg 3;simp only[vV]
  go_enter func162,ntmps162
  go_wp2_with(first|(go_at_call 153;refine(xO x y _).mono ?_;rintro e w1⟨rfl,i⟩;rw[q9 z];obtain⟨A,G⟩:=qj i;have C:w.heap.size+2<w1.heap.size:=(by have:=i.size;simp at this;omega))|(go_at_call 205;refine(qh2 q _).mono ?_;rintro e D⟨rfl,rfl⟩)|(go_at_call 62;rw[q9 u (by trivial)];refine(yT _ _).mono ?_;rintro e w2⟨rfl,g⟩;obtain⟨m,t⟩:=qj g;simp only[vV])|(go_at_call 152;refine(jI _).mono ?_;rintro e w2⟨rfl,g⟩;obtain⟨m,t⟩:=qj g;simp only[vV]))
  refine ak (by simp[go_sem,m,A,C]<;>rfl) rfl ⟨rfl, ?_⟩;exact((((qf (qf (jS _ _ _ _) i) g).setCell my _).setCell my _).setCell my _)
theorem qfy(x y:V)(C:Rng x.num)(A:Rng y.num)(w:World):
  Calls prog 161 #[vV x,vV y] w λe w'=>e=.returned (vV (qir x y))/\Xb w w':=by
 unfold qir;have u:Hid (xp (x.num * y.num)=true->wrap64 (x.num * y.num)=x.num * y.num):=qd xY;obtain⟨f,i⟩:∃f,xp (x.num * y.num)=f:=⟨_,rfl⟩;obtain⟨l,j⟩:∃l,(x.num==-9223372036854775808&&y.num==-1)=l:=⟨_,rfl⟩;have I:=qd j
 have G:(y.num==0)=true/\x.num * y.num=0/\f=true\/(y.num==0)=false/\¬y.num=0/\(l||!(wrap64 ((wrap64 (x.num * y.num)).tdiv y.num)==x.num))=!f:=by
  by_cases h:y.num=0
  ·exact .inl ⟨by rw[h];rfl,by rw[h,Int.mul_zero],by rw[←i,h,Int.mul_zero];rfl⟩
  ·exact .inr ⟨ae.2 h,h,by rw[←j,←i];exact vaz C A h⟩
 rw[i]at u ⊢;clear i j;rcases G with⟨H,D,rfl⟩|⟨H,M,s⟩
 all_goals cases hk:jr x y
 rotate_left 2
 all_goals try(cases l<;>cases f<;>simp only[mn,io,ma,mq,Bool.true_eq_false]at s)
 all_goals
  have J:=qd hk;clear hk;simp only[ig,fj,cu,if_true,if_false]
  conv=>arg 3;simp only[vV]
  try rw[D]
  try have O:(wrap64 ((wrap64 (x.num * y.num)).tdiv y.num) != x.num)=_:=s
  go_enter func161,ntmps161
  go_wp2_with(first|(go_at_call 153;refine(xO x y _).mono ?_;rintro e w1⟨rfl,q⟩;rw[q9 J];obtain⟨K,P⟩:=qj q;have L:w.heap.size+2<w1.heap.size:=(by have:=q.size;simp at this;omega))|(go_at_call 62;refine(yT _ _).mono ?_;rintro e w2⟨rfl,g⟩;obtain⟨m,t⟩:=qj g;simp only[vV])|(go_at_call 152;refine(jI _).mono ?_;rintro e w2⟨rfl,g⟩;obtain⟨m,t⟩:=qj g;simp only[vV]))
  try
   go_quiet ((go_at_call 205;exact Calls.quiet_of_same (qh2 I _)))
   go_wp2_with((first|(go_at_call 62;rw[q9 u (by trivial)];refine(yT _ _).mono ?_)|(go_at_call 152;refine(jI _).mono ?_));rintro e w2⟨rfl,z⟩;have g:Xb w1 w2:=(below_drewN (Below.refl w1.heap.size w1) _).trans z;clear z;obtain⟨m,t⟩:=qj g;simp only[vV])
  refine ak (by simp[go_sem,m,K,L]<;>rfl) rfl ⟨rfl, ?_⟩;exact((((qf (qf (jS _ _ _ _) q) g).setCell my _).setCell my _).setCell my _)
end
section
structure Pr where
 name:List UInt8
 val:V
def EvAt(w:World)(b off:Nat)(ps:List Pr):Prop:=∀(k:Nat) (p:Pr),ps[k]?=some p ->
 w.cell? ⟨b,off+k * 4,none⟩=some (.string (BS p.name))/\w.cell? ⟨b,off+k * 4+1,none⟩=some (.int .i64 p.val.kind) /\
 w.cell? ⟨b,off+k * 4+2,none⟩=some (.int .i64 p.val.num)/\w.cell? ⟨b,off+k * 4+3,none⟩=some (.string (BS p.val.str))
def qg5(ps:List Pr)(n:List UInt8):Bool:=ps.any λp=>p.name==n
theorem vQ{a:World}(h:Xb a w)(o:Obj):Xb a (w.alloc o):=h.alloc h.size o
theorem EvAt.below{b:Nat}{i:List Pr}(h:EvAt w b off i)(f:Xb w w')(g:b<w.heap.size):EvAt w' b off i:=by
 intro k p j;obtain⟨s,q,m,l⟩:=h k p j;exact⟨(f.cell g).trans s,(f.cell g).trans q,(f.cell g).trans m,(f.cell g).trans l⟩
theorem qyx{f:List Pr}{n:mv}{p:Pr}(h:f[k]?=some p):qg5 (f.drop k) n=(p.name==n||qg5 (f.drop (k+1)) n):=by
 obtain⟨g,i⟩:=au.1 h;unfold qg5;rw[ce g,List.any_cons,i]
theorem vg4(b off cap:Nat)(f:List Pr)(s:mu)(w:World)(I:f.length<=8)(u:EvAt w b off f)(z:b<w.heap.size):
  nz 60 #[.slice (some ⟨b,off,none⟩) f.length cap,.string s] w λe w'=>e=.returned (.bool (qg5 f s.data.toList))/\Xb w w':=by
 go_enter func60,ntmps60
 go_wp2_with fail
 go_loopw [6,9] (λ_ i wr=>∃k:Nat,k<=f.length/\i=.int .i64 k/\Hid (qg5 f s.data.toList=qg5 (f.drop k) s.data.toList)/\Xb w wr) (λ_ i _=>f.length - (intOf i).toNat)
 case atStart=>exact⟨0,bj _,rfl,qd (by rw[db]),nw⟩
 case round=>
  obtain⟨k,A,rfl,g,q⟩:=hrel
  by_cases I4:k<f.length
  ·obtain⟨p,m⟩:∃p,f[k]?=some p:=⟨_,ag I4⟩
   obtain⟨H,G,D,C⟩:=(u.below q z) k p m;have j:=qyx (n:=s.data.toList) m;have t:((BS p.name).toList==s.toList)=(p.name==s.data.toList):=by rw[qM,ei]
   cases he:(p.name==s.data.toList) with
   | true=>
    rw[he,mn]at j;rw[he]at t;have l:Hid (qg5 f s.data.toList=true):=qd (by rw[q9 g,j]);clear j m he g
    go_wp2_with fail
    go_ret;exact⟨qR (by rw[q9 l]),vQ q _⟩
   | false=>
    rw[he,io]at j;rw[he]at t;have l:Hid (qg5 f s.data.toList=qg5 (f.drop (k+1)) s.data.toList):=qd (by rw[q9 g,j]);clear j m he g
    go_wp2_with fail
    exact⟨⟨k+1,mw,by go_num,l,vQ q _⟩,by simp[intOf];omega⟩
  ·have l:Hid (qg5 f s.data.toList=false):=qd (by rw[q9 g,di mw];rfl)
   clear g
   go_wp2_with fail
   go_ret;exact⟨qR (by rw[q9 l]),q⟩
def xL(ps:List Pr)(n:List UInt8):V:=match ps.find? λp=>p.name==n with
 | some p=>p.val
 | none=>nV
theorem qgu{f:List Pr}{n:mv}{p:Pr}(h:f[k]?=some p):xL (f.drop k) n=if p.name==n then p.val else xL (f.drop (k+1)) n:=by
 obtain⟨g,i⟩:=au.1 h;unfold xL;rw[ce g,i,List.find?_cons];cases p.name==n<;>rfl
theorem va5(b off cap:Nat)(g:List Pr)(s:mu)(w:World)(P:g.length<=8)(G:EvAt w b off g)(R:b<w.heap.size):
  nz 61 #[.slice (some ⟨b,off,none⟩) g.length cap,.string s] w λe w'=>e=.returned (vV (xL g s.data.toList))/\Xb w w':=by
 obtain⟨F,t⟩:∃f,xL g s.data.toList=f:=⟨_,rfl⟩;rw[t];have H:=qd t;clear t;go_enter func61,ntmps61
 go_wp2_with fail
 go_loopw [6,9] (λ_ i wr=>∃k:Nat,k<=g.length/\i=.int .i64 k/\Hid (F=xL (g.drop k) s.data.toList)/\Below (w.heap.size+1) (w.alloc (.cells #[.int .i64 0,.int .i64 0,.string ⟨#[]⟩] 26)) wr) (λ_ i _=>g.length - (intOf i).toNat)
 case atStart=>exact⟨0,bj _,rfl,qd (by rw[db,q9 H]),nw⟩
 case round=>
  obtain⟨k,J,rfl,j,z⟩:=hrel;have u:Below (w.alloc (.cells #[.int .i64 0,.int .i64 0,.string ⟨#[]⟩] 26)).heap.size (w.alloc (.cells #[.int .i64 0,.int .i64 0,.string ⟨#[]⟩] 26)) wr:=by simpa using z
  have D:=qV u;obtain⟨A,Q⟩:=qj u;have I:w.heap.size<wr.heap.size:=by have:=u.size;simp at this;omega
  by_cases I4:k<g.length
  ·obtain⟨p,q⟩:∃p,g[k]?=some p:=⟨_,ag I4⟩
   obtain⟨O,M,L,K⟩:=G k p q;have l:=qgu (n:=s.data.toList) q;have C:((BS p.name).toList==s.toList)=(p.name==s.data.toList):=by rw[qM,ei]
   cases he:(p.name==s.data.toList) with
   | true=>
    rw[he,bh rfl]at l;rw[he]at C;have m:Hid (F=p.val):=qd (by rw[q9 j,l]);clear l q he j
    go_wp2_with fail
    refine ak (by simp[go_sem,A,I]<;>rfl) rfl ⟨?_, ?_⟩
    ·rw[q9 m];rfl
    ·exact vQ (((D.setCell mx _).setCell mx _).setCell mx _) _
   | false=>
    rw[he,aj mx]at l;rw[he]at C;have m:Hid (F=xL (g.drop (k+1)) s.data.toList):=qd (by rw[q9 j,l]);clear l q he j
    go_wp2_with fail
    exact⟨⟨k+1,mw,by go_num,m,z.alloc mw _⟩,by simp[intOf];omega⟩
  ·have m:Hid (F=nV):=qd (by rw[q9 j,di mw];rfl)
   clear j
   go_wp2_with fail
   refine ak (by simp[go_sem,A]<;>rfl) rfl ⟨?_, ?_⟩
   ·rw[q9 m];rfl
   ·exact((D.setCell mx _).setCell mx _).setCell mx _
theorem qq3(a:Option Addr)(cap:Nat)(s:mu)(w:World):
  nz 61 #[.slice a 0 cap,.string s] w λe w'=>e=.returned (vV nV)/\Xb w w':=by
 go_enter func61,ntmps61
 go_wp2_with fail
 refine wp_loop_rounds 1 ?_;rw[rounds_succ]
 go_wp2_with fail
 refine nx ⟨rfl,nw.alloc nt _⟩
def jx(n:List UInt8):Bool:=decide (n.length<=16)&&yp n
def kV(v:V):Bool:=
 if v.kind==0 then v.num==0&&v.str.isEmpty
 else if v.kind==1 then(v.num==0||v.num==1)&&v.str.isEmpty
 else if v.kind==2 then v.str.isEmpty
 else if v.kind==3 then v.num==0&&decide (v.str.length<=20)
 else false
end
section
theorem zd(s:mu)(i:s.size<=140737488355328)(w:World):
  nz 58 #[.string s] w λe w'=>e=.returned (.bool (jx s.data.toList))/\Xb w w':=by
 unfold jx;rw[qr];obtain⟨g,f⟩:∃g,yp s.data.toList=g:=⟨_,rfl⟩;rw[f];have j:=qd f;clear f
 by_cases h:s.size<=16
 ·go_enter func58,ntmps58
  go_wp2_with(go_at_call 105;refine(qqd _ i _).mono ?_;rintro e w'⟨rfl,l⟩;rw[q9 j])
  all_goals(go_ret;exact⟨qR (by simp_all),by assumption⟩)
 ·go_enter func58,ntmps58
  go_wp2_with fail
  go_ret;exact⟨qR nj,nw⟩
theorem qml(l:mv):(BS l).toList.isEmpty=l.isEmpty:=by rw[qM]
theorem zL(v:V)(j:v.str.length<=140737488355328)(w:World):
  Calls prog 59 #[vV v] w λe w'=>e=.returned (.bool (kV v))/\Xb w w':=by
 have h:=qml v.str;have i:=qG v.str;unfold kV;obtain⟨f,g⟩:∃f,v.str.isEmpty=f:=⟨_,rfl⟩;rw[g]at h ⊢;clear g
 conv=>arg 3;simp only[vV]
 cases h0:(v.kind==0)
 ·cases h1:(v.kind==1)
  ·cases h2:(v.kind==2)
   ·cases h3:(v.kind==3)
    ·simp only[cu,if_false]
     go_enter func59,ntmps59
     go_wp2_with fail
     go_ret;exact⟨rfl,nw.alloc nt _⟩
    ·simp only[cu,if_false,if_true]
     go_enter func59,ntmps59
     go_wp2_with fail
     all_goals(go_ret;exact⟨qR (by simp_all<;>omega),nw.alloc nt _⟩)
   ·simp only[cu,if_false,if_true]
    go_enter func59,ntmps59
    go_wp2_with fail
    all_goals(go_ret;exact⟨qR (by simp_all<;>omega),nw.alloc nt _⟩)
  ·simp only[cu,if_false,if_true]
   go_enter func59,ntmps59
   go_wp2_with fail
   all_goals(go_ret;exact⟨qR (by simp_all<;>omega),nw.alloc nt _⟩)
 ·simp only[if_true]
  go_enter func59,ntmps59
  go_wp2_with fail
  all_goals(go_ret;exact⟨qR (by simp_all<;>omega),nw.alloc nt _⟩)
end
section
def qct(ps:List Pr)(k:Nat):Bool:=match ps[k]? with
 | some p=>jx p.name&&kV p.val&&!qg5 (ps.take k) p.name
 | none=>true
def xK(ps:List Pr):Bool:=decide (ps.length<=8)&&(List.range ps.length).all (qct ps)
theorem qgs{f:List Pr}(h:¬f.length<=8):xK f=false:=by unfold xK;rw[cw h];rfl
theorem va4{f:List Pr}(g:k<f.length)(h:qct f k=false):xK f=false:=by
 unfold xK;rw[ll];right;rw[List.all_eq_false];exact⟨k,ff.2 g,by rw[h];simp⟩
theorem qgr{f:List Pr}(i:f.length<=8)(h:∀j,j<f.length->qct f j=true):xK f=true:=by
 unfold xK;rw[de i,fm,List.all_eq_true];exact λj g=>h j (ff.1 g)
theorem EvAt.take{b:Nat}{g:List Pr}(h:EvAt w b off g)(k:Nat):EvAt w b off (g.take k):=by
 intro j p f;rw[List.getElem?_take]at f
 split at f
 ·exact h j p f
 ·cases f
def qsh(ps:List Pr):Prop:=∀p∈ps,p.name.length<=140737488355328/\p.val.str.length<=140737488355328
theorem vg5{f:List Pr}(h:f.length=k)(cap:Nat){b:Nat}(s:mu)(w:World)(i:k<=8)(g:EvAt w b off f)(j:b<w.heap.size):
  nz 60 #[.slice (some ⟨b,off,none⟩) k cap,.string s] w λe w'=>e=.returned (.bool (qg5 f s.data.toList))/\Xb w w':=by
 subst h;exact vg4 b off cap f s w i g j
theorem EvAt.later{b:Nat}{f:List Pr}(h:EvAt w b off f)(j:W=(w.alloc o).drew)(q:b<w.heap.size)(i:Xb W w1)(m:Xb w1 w2):EvAt w2 b off f:=by
 subst j;have l:EvAt (w.alloc o).drew b off f:=h.below (nw.alloc nt o).drew q;have g:b<(w.alloc o).drew.heap.size:=by show b<(w.alloc o).heap.size;simp;omega
 exact(l.below i g).below m (bg g i.size)
theorem qs0(b off cap:Nat)(f:List Pr)(w:World)(b9:f.length<=cap)(bJ:f.length<=140737488355328)(T:qsh f)(M:EvAt w b off f)(J:b<w.heap.size)(g:xK f=true):
  nz 37 #[.slice (some ⟨b,off,none⟩) f.length cap] w λe w'=>e=.returned (.bool true)/\Xb w w':=by
 obtain⟨h8,H⟩:f.length<=8/\∀j,j<f.length->qct f j=true:=by
  unfold xK at g;rw[cn,du,List.all_eq_true]at g;exact⟨g.1,λj m=>g.2 j (ff.2 m)⟩
 have HG:=qd H;clear H g;go_enter func37,ntmps37
 go_wp2_with fail
 go_loopw [3,4,10] (λ_ _ i wr=>∃k:Nat,k<=f.length/\i=.int .i64 k/\Hid (∀j,j<k->qct f j=true)/\Xb w wr) (λ_ _ i _=>f.length - (intOf i).toNat)
 case atStart=>exact⟨0,bj _,rfl,qd (λj m=>absurd m mw),nw⟩
 case round=>
  obtain⟨k,hk,rfl,G,q⟩:=hrel
  by_cases I4:k<f.length
  ·obtain⟨p,l⟩:∃p,f[k]?=some p:=⟨_,ag I4⟩
   have C:=M.below q J;have Q:b<wr.heap.size:=bg J q.size;obtain⟨h1,h2,h3,h4⟩:=C k p l;obtain⟨Y,P⟩:=T p (ch l);have g:qct f k=(jx p.name&&kV p.val&&!qg5 (f.take k) p.name):=by unfold qct;rw[l]
   have I:(f.take k).length=k:=by rw[dh];omega
   have O:=qd (C.take k);have HL:=qd I;clear l C I;have D:=q9 HG k I4;rw[g]at D;simp only[cn,mr]at D;obtain⟨⟨A,z⟩,u⟩:=D;have HN:=qd A;have Z:=qd z
   have U:Hid (∀j,j<k+1->qct f j=true):=qd (λj m=>by
    by_cases hjk:j<k
    ·exact q9 G j hjk
    ·have:j=k:=mw
     rw[this,g,A,z,u];rfl)
   have HH:=qd u;clear A g z u
   go_wp2_with fail
   go_region_with(first|(go_at_call 58;refine(zd _ (by exact Y) _).mono ?_;rintro e w1⟨rfl,t⟩;rw[show jx (BS p.name).data.toList=true from q9 HN];obtain⟨D5,F6⟩:=qj t;have B9:wr.heap.size<w1.heap.size:=(by have:=t.size;simp at this;omega);have X:Xb w w1:=qf (vQ q _).drew t)|(go_at_call 59;refine(zL p.val P _).mono ?_;rintro e w2⟨rfl,s⟩;rw[q9 Z];obtain⟨I1,K9⟩:=qj s;have D8:wr.heap.size<w2.heap.size:=(by have:=s.size;omega);have R:Xb w w2:=qf X s)|(go_at_call 60;refine(vg5 HL cap (BS p.name) _ mw (by exact O.later rfl Q t s) mw).mono ?_;rintro e K⟨rfl,D6⟩;rw[show qg5 (f.take k) (BS p.name).data.toList=false from q9 HH];have L:Xb w K:=qf R D6))
   all_goals(go_wp2_with fail)
   all_goals exact⟨⟨k+1,mw,by go_num,U,L⟩,by simp[intOf];omega⟩
  ·clear G
   go_wp2_with fail
   go_ret;exact⟨rfl,q⟩
end
section
theorem vM(b:Bool)(w:World):nz 132 #[.bool b] w λe w'=>e=.returned (vV (bV b))/\Xb w w':=by
 cases b
 all_goals
  go_enter func132,ntmps132
  go_wp2_with fail
  refine ak (by simp[go_sem]<;>first|rfl|exact⟨rfl,rfl,rfl⟩) rfl ⟨rfl, ?_⟩
  repeat' (first|exact qI _ _ _|refine Below.setCell ?_ mx _)
theorem qfn(x:V)(w:World):nz 177 #[vV x] w λe w'=>e=.returned (vV (xP x))/\Xb w w':=by
 unfold xP
 cases hk:(x.kind==1) with
 | true=>
  have i:(x.kind != 1)=false:=by simp only[bne,hk];rfl
  simp only[vV];go_enter func177,ntmps177
  go_wp2_with(go_at_call 132;refine(vM _ _).mono ?_;rintro e w'⟨rfl,f⟩;obtain⟨g,j⟩:=qj f;simp only[vV])
  refine ak (by simp[go_sem,g]<;>rfl) rfl ⟨rfl, ?_⟩;exact((((qf (qI _ _ _) f).setCell mx _).setCell mx _).setCell mx _)
 | false=>
  have i:(x.kind != 1)=true:=by simp only[bne,hk];rfl
  simp only[vV];go_enter func177,ntmps177
  go_wp2_with fail
  refine ak (by simp[go_sem]<;>first|rfl|exact⟨rfl,rfl,rfl⟩) rfl ⟨rfl, ?_⟩
  repeat' (first|exact qI _ _ _|refine Below.setCell ?_ mx _)
theorem qa1(x y:V)(w:World):nz 222 #[vV x,vV y] w λe w'=>e=.returned (vV (eqV x y))/\Xb w w':=by
 have i:=λw=>qgp x y w
 simp only[vV]at i;unfold eqV;generalize decide (x=y)=d at *
 cases h0:(x.kind==0) with
 | true=>
  simp only[mn,if_true,vV];go_enter func222,ntmps222
  go_wp2_with fail
  refine ak (by simp[go_sem]<;>first|rfl|exact⟨rfl,rfl,rfl⟩) rfl ⟨rfl, ?_⟩
  repeat' (first|exact jS _ _ _ _|refine Below.setCell ?_ mx _)
 | false=>
  cases h1:(x.kind==y.kind) with
  | false=>
   have g:(x.kind != y.kind)=true:=by simp only[bne,h1];rfl
   simp only[io,mq,if_true,vV];go_enter func222,ntmps222
   go_wp2_with fail
   refine ak (by simp[go_sem]<;>first|rfl|exact⟨rfl,rfl,rfl⟩) rfl ⟨rfl, ?_⟩
   repeat' (first|exact jS _ _ _ _|refine Below.setCell ?_ mx _)
  | true=>
   have g:(x.kind != y.kind)=false:=by simp only[bne,h1];rfl
   simp only[io,ma,cu,if_false,vV];go_enter func222,ntmps222
   go_wp2_with(go_at_call 132;refine(vM _ _).mono ?_;rintro e w'⟨rfl,f⟩;obtain⟨q,m⟩:=qj f;have l:w.heap.size+2<w'.heap.size:=(by have:=f.size;simp at this;omega);have j:Xb w w':=(by first|exact qf (jS _ _ _ _) f|exact qf (by assumption) f);clear f;simp only[vV])
   refine ak (by simp[go_sem, *]<;>rfl) rfl ⟨rfl, ?_⟩;exact(((j.setCell my _).setCell my _).setCell my _)
end
section
theorem qk9{M:Int}(f:0<b)(g:0<=M):a<=M.tdiv b↔a * b<=M:=by
 rw[lp g];exact Int.le_ediv_iff_mul_le f
theorem vfz(g:0<a)(f:0<b):decide (a<=Int.tdiv 9223372036854775807 b)=xp (a * b):=by
 have h:=qk9 (a:=a) (M:=9223372036854775807) f nh;have i:0<a * b:=Int.mul_pos g f;unfold xp;rw[de (show -9223372036854775808<=a * b by omega),fm];simp only[h]
theorem vfy(g:a<0)(f:b<0):decide (a≥Int.tdiv 9223372036854775807 b)=xp (a * b):=by
 have h:=qk9 (a:=-a) (b:=-b) (M:=9223372036854775807) mw nh;rw[Int.neg_mul_neg,Int.tdiv_neg]at h;have i:0<a * b:=Int.mul_pos_of_neg_of_neg g f;unfold xp;rw[de (show -9223372036854775808<=a * b by omega),fm];have:a≥Int.tdiv 9223372036854775807 b↔a * b<=9223372036854775807:=by rw[←h];omega
 simp only[this]
theorem qgw(f:0<a)(g:b<0):decide (b≥Int.tdiv (-9223372036854775808) a)=xp (a * b):=by
 have h:=qk9 (a:=-b) (b:=a) (M:=9223372036854775808) f nh;have i:a * b<0:=Int.mul_neg_of_pos_of_neg f g;unfold xp;rw[de (show a * b<=9223372036854775807 by omega),ig];rw[Int.neg_mul,Int.mul_comm b a]at h
 have:b≥Int.tdiv (-9223372036854775808) a↔-9223372036854775808<=a * b:=by
  rw[Int.neg_tdiv];constructor
  ·intro q
   have:=h.1 mw;omega
  ·intro q
   have:=h.2 mw;omega
 simp only[this]
theorem qdv(f:0<a):wrap64 (-Int.tdiv 9223372036854775808 a)=Int.tdiv (-9223372036854775808) a:=by
 have i:0<=Int.tdiv 9223372036854775808 a:=Int.tdiv_nonneg nh mw
 have g:Int.tdiv 9223372036854775808 a<=9223372036854775808:=by
  rw[lp nh];exact Int.ediv_le_self _ nh
 rw[Int.neg_tdiv];exact xY (by simp[xp];omega)
theorem qyi(f:b<0):wrap64 (Int.tdiv 9223372036854775807 b)=Int.tdiv 9223372036854775807 b:=by
 have e:Int.tdiv 9223372036854775807 b=-Int.tdiv 9223372036854775807 (-b):=by rw[Int.tdiv_neg,Int.neg_neg]
 have i:0<=Int.tdiv 9223372036854775807 (-b):=Int.tdiv_nonneg nh mw
 have g:Int.tdiv 9223372036854775807 (-b)<=9223372036854775807:=by
  rw[lp nh];exact Int.ediv_le_self _ nh
 exact xY (by rw[e];simp[xp];omega)
def qyq(a b:Int)(w:World)(e:Ending)(w':World):Prop:=∃n ok,e=.returned (.tuple #[.int .i64 n,.bool ok])/\ok=xp (a * b)/\(xp (a * b)=true->n=a * b)/\w'=w
theorem qi2(a b:Int)(q:Rng a)(m:Rng b)(w:World):nz 260 #[.int .i64 a,.int .i64 b] w (qyq a b w):=by
 unfold Rng at q m;obtain⟨I,D⟩:=q;obtain⟨K,J⟩:=m
 by_cases h0:a=0\/b=0
 ·by_cases ha0:a=0
  ·subst ha0
   clear h0;go_enter func260,ntmps260
   go_wp2_with fail
   go_ret2
   exact⟨_,_,rfl,by rw[Int.zero_mul];rfl,λ_=>(Int.zero_mul b).symm,rfl⟩
  ·have C:b=0:=mw
   subst C;clear h0;go_enter func260,ntmps260
   go_wp2_with fail
   go_ret2
   exact⟨_,_,rfl,by rw[Int.mul_zero];rfl,λ_=>(Int.mul_zero a).symm,rfl⟩
 have H:(a==0)=false:=ae.2 mw;have G:(b==0)=false:=ae.2 mw
 by_cases am:a=-1
 ·subst am
  have e:-1 * b=-b:=mw
  by_cases bl:b=-9223372036854775808
  ·subst bl
   go_enter func260,ntmps260
   go_wp2_with fail
   go_ret2
   exact⟨_,_,rfl,rfl,(λh=>absurd h nh),rfl⟩
  ·have u:(b != -9223372036854775808)=true:=by simpa using bl
   have i:=qd e;have l:Hid (xp (-b)=true):=qd (by simp[xp];omega);clear h0 e;go_enter func260,ntmps260
   go_wp2_with fail
   go_ret2
   exact⟨_,_,rfl,by rw[q9 i,q9 l],λ_=>by rw[q9 i],rfl⟩
 have z:(a==-1)=false:=ae.2 am
 by_cases bm:b=-1
 ·subst bm
  have e:a * -1=-a:=mw
  by_cases al:a=-9223372036854775808
  ·subst al
   go_enter func260,ntmps260
   go_wp2_with fail
   go_ret2
   exact⟨_,_,rfl,rfl,(λh=>absurd h nh),rfl⟩
  ·have A:(a != -9223372036854775808)=true:=by simpa using al
   have i:=qd e;have l:Hid (xp (-a)=true):=qd (by simp[xp];omega);clear h0 e;go_enter func260,ntmps260
   go_wp2_with fail
   go_ret2
   exact⟨_,_,rfl,by rw[q9 i,q9 l],λ_=>by rw[q9 i],rfl⟩
 have t:(b==-1)=false:=ae.2 bm;have j:Hid (xp (a * b)=true->wrap64 (a * b)=a * b):=qd λh=>xY h
 by_cases ap:0<a
 ·by_cases bp:0<b
  ·have f:=vfz ap bp
   rw[lp nh]at f;have g:=qd f;clear f h0;go_enter func260,ntmps260
   go_wp2_with fail
   go_ret2
   exact⟨_,_,rfl,q9 g,q9 j,rfl⟩
  ·have f:=qgw ap (show b<0 by omega)
   rw[←qdv ap]at f;have g:=qd f;clear f h0;go_enter func260,ntmps260
   go_wp2_with fail
   go_ret2
   exact⟨_,_,rfl,q9 g,q9 j,rfl⟩
 ·have s:a<0:=mw
  by_cases bp:0<b
  ·have f:=qgw bp s
   rw[←qdv bp,Int.mul_comm]at f;have g:=qd f;clear f h0;go_enter func260,ntmps260
   go_wp2_with fail
   go_ret2
   exact⟨_,_,rfl,q9 g,q9 j,rfl⟩
  ·have bn:b<0:=mw
   have f:=vfy s bn;rw[←qyi (show b<0 by omega)]at f;have g:=qd f;clear f h0;go_enter func260,ntmps260
   go_wp2_with fail
   go_ret2
   exact⟨_,_,rfl,q9 g,q9 j,rfl⟩
end
section
theorem pg(op:mu)(x y:V)(h:jr x y=false)(w:World):Calls prog 219 #[.string op,vV x,vV y] w λe w'=>e=.returned (vV nV)/\Xb w w':=by
 conv=>arg 3;simp only[vV]
 by_cases hx:x.kind=2
 ·have f:(x.kind != 2)=false:=by simp[hx]
  have g:(y.kind != 2)=true:=by unfold jr at h;simp[hx]at h;simpa using h
  clear hx h;go_enter func219,ntmps219
  go_wp2_with fail
  refine ak (by simp[go_sem]<;>first|rfl|exact⟨rfl,rfl,rfl⟩) rfl ⟨rfl, ?_⟩
  repeat' (first|exact jS _ _ _ _|refine Below.setCell ?_ mx _)
 ·have f:(x.kind != 2)=true:=by simpa using hx
  clear hx h;go_enter func219,ntmps219
  go_wp2_with fail
  refine ak (by simp[go_sem]<;>first|rfl|exact⟨rfl,rfl,rfl⟩) rfl ⟨rfl, ?_⟩
  repeat' (first|exact jS _ _ _ _|refine Below.setCell ?_ mx _)
theorem qbm(x y:V):jr y x=jr x y:=by unfold jr;exact Bool.and_comm _ _
theorem kP{O:mu}(w:World)(g:O=⟨#[60]⟩/\r=yo x y\/O=⟨#[60,61]⟩/\r=leV x y\/O=⟨#[62]⟩/\r=yo y x\/O=⟨#[62,61]⟩/\r=leV y x):Calls prog 219 #[.string O,vV x,vV y] w λe w'=>e=.returned (vV r)/\Xb w w':=by
 cases h:jr x y with
 | false=>
  have e:r=nV:=by rcases g with⟨_,rfl⟩|⟨_,rfl⟩|⟨_,rfl⟩|⟨_,rfl⟩<;>simp[yo,leV,qbm,h]
  rw[e];exact pg _ x y h w
 | true=>
  have m:yo x y=bV (decide (x.num<y.num)):=by unfold yo;rw[h];rfl
  have l:leV x y=bV (decide (x.num<=y.num)):=by unfold leV;rw[h];rfl
  have j:yo y x=bV (decide (y.num<x.num)):=by unfold yo;rw[qbm,h];rfl
  have i:leV y x=bV (decide (y.num<=x.num)):=by unfold leV;rw[qbm,h];rfl
  have A:(x.kind != 2)=false:=by unfold jr at h;simp at h;simp[h.1]
  have z:(y.kind != 2)=false:=by unfold jr at h;simp at h;simp[h.2]
  rw[m,l,j,i]at g;clear m l j i h
  conv=>arg 3;simp only[vV]
  rcases g with⟨rfl,rfl⟩|⟨rfl,rfl⟩|⟨rfl,rfl⟩|⟨rfl,rfl⟩
  all_goals
   go_enter func219,ntmps219
   go_wp2_with(go_at_call 132;refine(vM _ _).mono ?_;rintro e w'⟨rfl,f⟩;obtain⟨u,t⟩:=qj f;have s:w.heap.size+2<w'.heap.size:=(by have:=f.size;simp at this;omega);have q:Xb w w':=(by first|exact qf (jS _ _ _ _) f|exact qf (by assumption) f);clear f;simp only[vV])
   refine ak (by simp[go_sem, *]<;>rfl) rfl ⟨rfl, ?_⟩;exact(((q.setCell my _).setCell my _).setCell my _)
end
section
theorem qnn(x y:V)(w:World):nz 220 #[vV x,vV y] w λe w'=>e=.returned (vV (qg3 x y))/\Xb w w':=qem (.inr (.inr (.inl ⟨rfl,rfl,rfl,rfl⟩))) vM x y w
theorem qwk(x y:V)(w:World):nz 221 #[vV x,vV y] w λe w'=>e=.returned (vV (orV x y))/\Xb w w':=qem (.inr (.inr (.inr ⟨rfl,rfl,rfl,rfl⟩))) vM x y w
end
section
section
variable {w:World} {a N c:Int} {iv lv ev:Value} {S E:mu} {neg:Bool}
theorem qx2{b:Nat}{z p q:V}(hn:2<n)(t:b<w.heap.size)(x0:Xc w b 0 (.int .i64 x.kind))(x1:Xc w b 1 (.int .i64 x.num))(x2:Xc w b 2 (.string (BS x.str)))(y0:Xc w b 3 (.int .i64 y.kind))(y1:Xc w b 4 (.int .i64 y.num))(y2:Xc w b 5 (.string (BS y.str)))(z0:Xc w b 6 (.int .i64 z.kind))(z1:Xc w b 7 (.int .i64 z.num))(z2:Xc w b 8 (.string (BS z.str)))
  (HG:∀w,nz 219 #[.string ⟨#[62,61]⟩,vV x,vV y] w λe w'=>e=.returned (vV (p))/\Xb w w') (HL:∀w,nz 219 #[.string ⟨#[60,61]⟩,vV x,vV z] w λe w'=>e=.returned (vV (q))/\Xb w w') (HA:∀w,nz 220 #[vV p,vV q] w λe w'=>e=.returned (vV (r))/\Xb w w') :
  nz 176 #[.agg #[.string ⟨#[66,69,84,87,69,69,78]⟩,.int .i64 a,iv,.string S,.string E,lv,.int .i64 N,.bool neg,.int .i64 c],.slice (some ⟨b,0,none⟩) n cap,ev] w λe w'=>e=.returned (vV r)/\Xb w w':=by
 have aW:(0:Int)<(n:Int):=mw;have U4:(1:Int)<(n:Int):=mw;have J7:(2:Int)<(n:Int):=mw;have mW:0<n:=mw;have mB:1<n:=mw;have nb:¬b=w.heap.size:=mw;have fB:¬b=w.heap.size+1:=mw;have KH:¬w.heap.size+1=b:=mw;have RG:=qd HG;have RL:=qd HL;have RA:=qd HA;clear HG HL HA;simp only[vV]at RG RL RA;go_enter func176,ntmps176
 go_wp2_with fail
 go_region_held3 (λW=>Xc W b 0 (.int .i64 x.kind)/\Xc W b 1 (.int .i64 x.num)/\Xc W b 2 (.string (BS x.str))/\Xc W b 3 (.int .i64 y.kind)/\Xc W b 4 (.int .i64 y.num)/\Xc W b 5 (.string (BS y.str))/\Xc W b 6 (.int .i64 z.kind)/\Xc W b 7 (.int .i64 z.num)/\Xc W b 8 (.string (BS z.str))) (first|with_reducible assumption|go_keep) (first|(go_at_call 220;refine(RA _).mono ?_;rintro e l⟨rfl,u⟩;obtain⟨f,lA⟩:=qj u;have lM:=qf aL u;have uD:(Xc l b 0 (.int .i64 x.kind)/\Xc l b 1 (.int .i64 x.num)/\Xc l b 2 (.string (BS x.str))/\Xc l b 3 (.int .i64 y.kind)/\Xc l b 4 (.int .i64 y.num)/\Xc l b 5 (.string (BS y.str))/\Xc l b 6 (.int .i64 z.kind)/\Xc l b 7 (.int .i64 z.num)/\Xc l b 8 (.string (BS z.str))):=(by obtain⟨O,M,L,K,J,I,H,G,D⟩:=P;exact⟨(f _ 0 s).trans O,(f _ 1 s).trans M,(f _ 2 s).trans L,(f _ 3 s).trans K,(f _ 4 s).trans J,(f _ 5 s).trans I,(f _ 6 s).trans H,(f _ 7 s).trans G,(f _ 8 s).trans D⟩);have hbw3:b<l.heap.size:=(by have:=u.size;omega);have S4:w.heap.size+2<=l.heap.size:=(by have:=u.size;omega);have u0:=(f _ 0 mw).trans X;have u1:=(f _ 1 mw).trans U;have u2:=(f _ 2 mw).trans T;have uz:=(λi=>(lA (w.heap.size+1) i mw).trans (R i));clear u f lA X U T R)|(go_at_call 219;have _q:=Q;refine(RL _).mono ?_;rintro e w2⟨rfl,A⟩;obtain⟨g,K9⟩:=qj A;have aL:=qf Q A;have P:(Xc w2 b 0 (.int .i64 x.kind)/\Xc w2 b 1 (.int .i64 x.num)/\Xc w2 b 2 (.string (BS x.str))/\Xc w2 b 3 (.int .i64 y.kind)/\Xc w2 b 4 (.int .i64 y.num)/\Xc w2 b 5 (.string (BS y.str))/\Xc w2 b 6 (.int .i64 z.kind)/\Xc w2 b 7 (.int .i64 z.num)/\Xc w2 b 8 (.string (BS z.str))):=(by obtain⟨O,M,L,K,J,I,H,G,D⟩:=XG;exact⟨(g _ 0 m).trans O,(g _ 1 m).trans M,(g _ 2 m).trans L,(g _ 3 m).trans K,(g _ 4 m).trans J,(g _ 5 m).trans I,(g _ 6 m).trans H,(g _ 7 m).trans G,(g _ 8 m).trans D⟩);have s:b<w2.heap.size:=(by have:=A.size;omega);have D8:w.heap.size+2<=w2.heap.size:=(by have:=A.size;omega);have X:=(g _ 0 mw).trans s0;have U:=(g _ 1 mw).trans Z;have T:=(g _ 2 mw).trans Y;have R:=(λi=>(K9 (w.heap.size+1) i mw).trans (sz i));clear A g K9 s0 Z Y sz Q)|(go_at_call 219;refine(RG _).mono ?_;rintro e w1⟨rfl,C⟩;have Q:=qf (qI w _ _).drew C;obtain⟨j,F6⟩:=qj C;have B9:w.heap.size+2<=w1.heap.size:=(by have:=C.size;change ((w.alloc _).alloc _).heap.size<=_ at this;simp at this;omega);have m:b<w1.heap.size:=mw;have XG:(Xc w1 b 0 (.int .i64 x.kind)/\Xc w1 b 1 (.int .i64 x.num)/\Xc w1 b 2 (.string (BS x.str))/\Xc w1 b 3 (.int .i64 y.kind)/\Xc w1 b 4 (.int .i64 y.num)/\Xc w1 b 5 (.string (BS y.str))/\Xc w1 b 6 (.int .i64 z.kind)/\Xc w1 b 7 (.int .i64 z.num)/\Xc w1 b 8 (.string (BS z.str))):=⟨(j _ 0 (by show _<((w.alloc _).alloc _).heap.size;simp;omega)).trans ((qj (qI w _ _)).1 b 0 t |>.trans x0),(j _ 1 (by show _<((w.alloc _).alloc _).heap.size;simp;omega)).trans ((qj (qI w _ _)).1 b 1 t |>.trans x1),(j _ 2 (by show _<((w.alloc _).alloc _).heap.size;simp;omega)).trans ((qj (qI w _ _)).1 b 2 t |>.trans x2),(j _ 3 (by show _<((w.alloc _).alloc _).heap.size;simp;omega)).trans ((qj (qI w _ _)).1 b 3 t |>.trans y0),(j _ 4 (by show _<((w.alloc _).alloc _).heap.size;simp;omega)).trans ((qj (qI w _ _)).1 b 4 t |>.trans y1),(j _ 5 (by show _<((w.alloc _).alloc _).heap.size;simp;omega)).trans ((qj (qI w _ _)).1 b 5 t |>.trans y2),(j _ 6 (by show _<((w.alloc _).alloc _).heap.size;simp;omega)).trans ((qj (qI w _ _)).1 b 6 t |>.trans z0),(j _ 7 (by show _<((w.alloc _).alloc _).heap.size;simp;omega)).trans ((qj (qI w _ _)).1 b 7 t |>.trans z1),(j _ 8 (by show _<((w.alloc _).alloc _).heap.size;simp;omega)).trans ((qj (qI w _ _)).1 b 8 t |>.trans z2)⟩;have s0:Xc w1 (w.heap.size+1) 0 (.int .i64 0):=(j _ 0 (by show _<((w.alloc _).alloc _).heap.size;simp)).trans (by show((w.alloc _).alloc _).cell? _=_;simp);have Z:Xc w1 (w.heap.size+1) 1 (.int .i64 0):=(j _ 1 (by show _<((w.alloc _).alloc _).heap.size;simp)).trans (by show((w.alloc _).alloc _).cell? _=_;simp);have Y:Xc w1 (w.heap.size+1) 2 (.string ⟨#[]⟩):=(j _ 2 (by show _<((w.alloc _).alloc _).heap.size;simp)).trans (by show((w.alloc _).alloc _).cell? _=_;simp);have sz:Xf w1 (w.heap.size+1):=(λi=>(F6 _ i (by show _<((w.alloc _).alloc _).heap.size;simp)).trans (by show((w.alloc _).alloc _).frozen? _=_;simp));clear C j F6))
 all_goals go_wp2_with fail
 all_goals refine ak (by simp[go_sem,u0,u1,u2]<;>rfl) rfl ⟨rfl, ?_⟩
 all_goals exact(((lM.setCell mx _).setCell mx _).setCell mx _)
theorem qx4{b:Nat}(t:0<n)(g:b<w.heap.size)(q:Xc w b 0 (.int .i64 x.kind))(m:Xc w b 1 (.int .i64 x.num))(l:Xc w b 2 (.string (BS x.str)))
  (j:∀w,nz 223 #[vV x,.string S,.string E] w λe w'=>e=.returned (vV (r))/\Xb w w') :
  nz 176 #[.agg #[.string ⟨#[76,73,75,69]⟩,.int .i64 a,iv,.string S,.string E,lv,.int .i64 N,.bool neg,.int .i64 c],.slice (some ⟨b,0,none⟩) n cap,ev] w λe w'=>e=.returned (vV r)/\Xb w w':=by
 have C:(0:Int)<(n:Int):=mw;have s:¬b=w.heap.size:=mw;have A:¬b=w.heap.size+1:=mw;have D:¬w.heap.size+1=b:=mw;have RN:=qd j;clear j;simp only[vV]at RN;go_enter func176,ntmps176
 go_wp2_with fail
 go_region_held3 (λW=>Xc W w.heap.size 3 (.string S)/\Xc W w.heap.size 4 (.string E)/\Xc W b 0 (.int .i64 x.kind)/\Xc W b 1 (.int .i64 x.num)/\Xc W b 2 (.string (BS x.str))) (first|with_reducible assumption|go_keep) ((go_at_call 223;refine(RN _).mono ?_;rintro e w'⟨rfl,i⟩;obtain⟨f,u⟩:=qj i;have z:(Xc w' w.heap.size 3 (.string S)/\Xc w' w.heap.size 4 (.string E)/\Xc w' b 0 (.int .i64 x.kind)/\Xc w' b 1 (.int .i64 x.num)/\Xc w' b 2 (.string (BS x.str))):=⟨(f _ 3 (by show _<((w.alloc _).alloc _).heap.size;simp;try omega)).trans (by show((w.alloc _).alloc _).cell? _=_;simp),(f _ 4 (by show _<((w.alloc _).alloc _).heap.size;simp;try omega)).trans (by show((w.alloc _).alloc _).cell? _=_;simp),(f _ 0 (by show _<((w.alloc _).alloc _).heap.size;simp;omega)).trans ((qj (qI w _ _)).1 b 0 g |>.trans q),(f _ 1 (by show _<((w.alloc _).alloc _).heap.size;simp;omega)).trans ((qj (qI w _ _)).1 b 1 g |>.trans m),(f _ 2 (by show _<((w.alloc _).alloc _).heap.size;simp;omega)).trans ((qj (qI w _ _)).1 b 2 g |>.trans l)⟩))
 all_goals go_wp2_with fail
 all_goals refine ak (by simp[go_sem,f]<;>rfl) rfl ⟨rfl, ?_⟩
 all_goals exact((((qf (qI _ _ _).drew i).setCell mx _).setCell mx _).setCell mx _)
end
end
end Go.Proofs.YtfkcaldjphakpaaGreatDoor
