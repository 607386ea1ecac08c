/- Of, of every term that -/
import Derived.Test.YtmepkbgodcffoaaGreatDoorM10
import Derived.Test.YtmepkbgodcffoaaGreatDoorShelf2
set_option maxHeartbeats 4000000
set_option maxRecDepth 100000
namespace Go.Proofs.YtmepkbgodcffoaaGreatDoor
open Go.RowKit Go.Proofs.Tryz
open _root_.List renaming length->A
open Go.World renaming setCell->B,ownsRow->ue
open Go.Value renaming ownBlock->ug,agg->Ai,bool->Ah,int->I,pointer->Ag,slice->C,string->Y
open Bool renaming false->uh,true->ui
open Go.Addr renaming mk->D
open _root_.Array renaming size->Z,toList->T
open Go renaming Value->Ap,World->Ao
open Go.Ending renaming returned->Ak
open Go.IntKind renaming i64->J
open Go.Obj renaming cells->Al
open Option renaming none->O,some->G
open Or renaming inl->Am,inr->An
variable{a:Act}{t:Ast}{x y:Co}{c m op pl want:Int}{ts zs:List uk}{ps:List Pr}{ud uc b bx k n rb:Nat}{p:Pay}{s:Ps}{v v0 v1 v2 v3 v4 v5 vx vy:Ap}{W w w':Ao}
theorem qhf(op:Int)(x y:V)(d:Rng x.M)(e:Rng y.M):x9 op x y (jP op x y):=by
 by_cases dN:op=14
 .subst dN;exact vr5 x y d
 by_cases f9:op=15
 .subst f9;exact vr6 x y d
 exact vix op dN f9 x y d e
def Sh(v:V):Prop:=A v.str<=1000
theorem qg5(b:Bool):Sh (bV b):=bt _
theorem qg6:Sh nV:=bt _
theorem vp4(n:Int):Sh (iV n):=bt _
theorem vf{c:Prop}[Decidable c]{a b:V}(e:Sh a)(d:Sh b):Sh (if c then a else b):=by
 grind
theorem vez(op:Int)(x y:V):Sh (jP op x y):=by
 refine vf (vf (qg5 _) qg6) (vf (vf (qg5 _) (vf (qg5 _) qg6)) (vf (vf (qg5 _) (vf (qg5 _) qg6)) (vf (vf qg6 (qg5 _)) (vf (vf (qg5 _) qg6) (vf (vf (qg5 _) qg6) (vf (vf (qg5 _) qg6) (vf (vf (qg5 _) qg6) (vf (vf (qg5 _) qg6) (vf (vf (vp4 _) qg6) (vf (vf (vp4 _) qg6) (vf (vf (vp4 _) qg6) (vf (vf (vp4 _) qg6) (vf (vf (vp4 _) qg6) (vf (vf (vp4 _) qg6) (qg5 _)))))))))))))))
theorem vx0(x y:V):Sh (orV x y):=vf (qg5 _) (vf (qg5 _) qg6)
theorem vmj(x:V)(ts:List uk):∀f:V,Sh f->Sh (ts.foldl (λf t=>orV f (eqV x (tV t))) f):=by
 induction ts<;>grind[vx0]
theorem vmk(p:Pay)(x y z:V):Sh (jn p x y z):=by
 refine vf (vf (qg5 _) (vf (qg5 _) qg6)) (vf (vmj x _ _ (qg5 _)) (vf (vf (qg5 _) qg6) (vez _ _ _)))
def vgm(ps:List Pr):Prop:=∀p∈ps,Sh p.val
theorem vf0(h:vgm ps)(hp:A p.str<=200)(s:List V):Sh (ofN ps p s):=by
 refine vf ?_ (vf (vp4 _) (vf ?_ (vf (qg5 _) (vf (qg5 _) (vmk _ _ _ _)))))
 grind[yA,qg6,vgm]
 show A p.str<=1000;omega
theorem qg7(h:vgm ps):∀t,qi6 t->Sh (ofA ps t):=by
 intro t;cases t<;>grind[vf0,qi6,ofA,Bp]
theorem qjk(d:Nat)(ps:List Pr)(ev:Ap)(t:Ast)(hp:Bp (qZ t))(f:∀x∈qw t,qz9 d ps ev x)(e:∀x∈qw t,Rng (ofA ps x).M)(g:∀x∈qw t,A (ofA ps x).str<=1000):qz9 d ps ev t:=by
 grind[vxt,vxu,vxv,vxw,vxx,vrz,viu,viv,viw,qwz,qhf,Bp]
theorem vjs(g:Nat)(ps:List Pr)(ev:Ap)(j:qe5 ps)(f:vgm ps):∀t,qi6 t->qi9 t->qz9 g ps ev t:=by
 intro t
 induction t with
 | leaf p=>intro e i;exact qjk g ps ev _ e (λx h=>by simp[qw]at h) (λx h=>by simp[qw]at h) (λx h=>by simp[qw]at h)
 | un p x ih=>
  intro e i;refine qjk g ps ev _ e.1 (λu d=>?_) (λu d=>?_) (λu d=>?_);simp[qw]at d;subst d;exact ih e.2 i.2;simp[qw]at d;subst d;exact qco j _ i.2;simp[qw]at d;subst d;exact qg7 f _ e.2
 | bin p x y ihx ihy=>
  intro e i;refine qjk g ps ev _ e.1 (λu d=>?_) (λu d=>?_) (λu d=>?_)
  grind[qw,qi6,qi9]
  grind[qw,qco,qi9]
  simp[qw]at d;obtain rfl|rfl:=d;exact qg7 f _ e.2.1;exact qg7 f _ e.2.2
 | tri p x y z ihx ihy ihz=>
  intro e i;refine qjk g ps ev _ e.1 (λu d=>?_) (λu d=>?_) (λu d=>?_)
  grind[qw,qi6,qi9]
  grind[qw,qco,qi9]
  simp[qw]at d;obtain rfl|rfl|rfl:=d;exact qg7 f _ e.2.1;exact qg7 f _ e.2.2.1;exact qg7 f _ e.2.2.2
theorem qnq:∀s:uk,Lib.replaceK [39] [39,39] (Lib.count s [39]) s=yK s:=by
 intro s
 induction s with
 | nil=>rfl
 | cons b l ih=>
  rw[yK]
  by_cases hb:b=39
  .subst hb
   rw[Lib.count_cons_eq,Nat.add_comm,Lib.replaceK_hit _ _ _ _ 0 (by rfl),bs (by rfl)];show[]++[39,39]++Lib.replaceK [39] [39,39] (Lib.count l [39]) l=_;rw[ih];rfl
  rw[Lib.count_cons_ne b 39 l hb,ak (by simpa using hb)]
  cases hc:Lib.count l [39] with
  | zero=>
   rw[hc]at ih;rw[<-ih];rfl
  | succ k=>
   obtain⟨i,d⟩:=Lib.index_of_count (s:=l) (old:=[39]) (by rw[hc];omega)
   have e:Lib.index (b::l) [39]=((i+1:Nat):Int):=by
    rw[Lib.index]
    have f:([39]:uk).isPrefixOf (b::l)=uh:=by
     grind
    rw[f,ak uu,ak (by grind),d];rfl
   rw[hc,Lib.replaceK_hit _ _ _ _ i d]at ih;rw[Lib.replaceK_hit _ _ _ _ (i+1) e,<-ih];rfl
theorem qgx(s:uk):Lib.replaceAll s [39] [39,39]=yK s:=by
 unfold Lib.replaceAll Lib.replace;unfold Lib.replaceNum
 grind[qnq]
theorem jE(s t:uj)(m n:Nat)(e:s.size<=m)(d:t.size<=n)(h:m+n<=9000000000):∃r,r=s++t/\r.size<=m+n/\∀w:Ao,(Op.stringOp .add s t).run prog w=.ok (Y r) w:=by grind[run_string_add_sum]
theorem qb8(s:uk):A (qL s)<=2 * A s+2:=by
 grind[qtu,qL]
theorem qae(s:uk)(r:A s<=1000000000)(w:Ao)(j:LibOk w):
  lz 221 #[Y (BS s)] w (Y (BS (qL s))):=by
 obtain⟨_,m,g⟩:=j.max;have i:=Lib.countB_le ⟨#[39]⟩ uu _ (BS s) ux;rw[qI]at i;have e:=Tryz.strings_ReplaceAll (BS s) ⟨#[39]⟩ ⟨#[39,39]⟩ m w (by rw[qI];omega) g uu (by rw[qI];show _+_ * 2<=_;omega);rw[show Lib.replaceAll (T (BS s).data) (T (⟨#[39]⟩:uj).data) (T (⟨#[39,39]⟩:uj).data)=yK s from qgx s]at e;have d:Hid (lz 246 #[Y (BS s),Y ⟨#[39]⟩,Y ⟨#[39,39]⟩] w (Y (BS (yK s)))):=qd e;have hd:=qtu s;obtain⟨z,o,f,F⟩:=jE ⟨#[39]⟩ (BS (yK s)) 1 2000000000 ux (by rw[qI];omega) uu;obtain⟨u,l,q,E⟩:=jE z ⟨#[39]⟩ 2000000001 1 f ux uu
 have B:Hid (u=BS (qL s)):=qd (by
  rw[l,o,show(⟨#[39]⟩:uj)=BS [39] from rfl,zh,zh]
  rfl)
 clear e g j i r hd o f l q;go_enter func221,ntmps221
 go_wp2_with(refine be d λD C=>?_)
 go_ret;exact⟨by rw[q9 B];rfl,C⟩
theorem qg9(op:Int):A (jJ op)<=3:=by
 grind[jJ]
theorem vao(op:Int)(w:Ao):
  uo 223 #[I J op] w λe w'=>e=Ak (Y (BS (jJ op)))/\w'=w:=by
 go_enter func223,ntmps223
 go_wp2
 all_goals(go_ret;refine⟨?_,rfl⟩;go_light;simp only[jJ, *,if_true,dk,if_false];rfl)
theorem pE(op:Int)(w:Ao):
  uo 191 #[I J op] w λe w'=>e=Ak (Ah (yy op))/\w'=w:=by
 go_enter func191,ntmps191
 go_wp2
 all_goals(go_ret;refine⟨?_,rfl⟩;go_light;simp only[yy, *,Bool.or_true,Bool.true_or,nj];rfl)
theorem qgb(b:Nat)(s:uk)(e:A s<=1000000000)(w:Ao)(d:LibOk w)(u:Xc w b 5 (Y (BS s))):
  lz 222 #[at0 b] w (Y (BS (qks s))):=by
 unfold at0 qks
 cases he:s.isEmpty with
 | true=>
  have i:(BS s).toList.isEmpty=ui:=by grind[qP]
  rw[bs rfl];clear d;go_enter func222,ntmps222
  go_wp2
  go_ret;exact⟨rfl,uy⟩
 | false=>
  have i:(BS s).toList.isEmpty=uh:=by grind[qP]
  rw[ak uu];have o:=qd (qae s e w d);have hq:=qb8 s;obtain⟨j,f,g,z⟩:=jE ⟨#[32,69,83,67,65,80,69,32]⟩ (BS (qL s)) 8 2000000002 ux (by rw[qI];omega) uu;have l:Hid (j=BS ([32,69,83,67,65,80,69,32]++qL s)):=qd (by rw[f,show(⟨#[32,69,83,67,65,80,69,32]⟩:uj)=BS [32,69,83,67,65,80,69,32] from rfl,zh]);clear d e hq f g he;go_enter func222,ntmps222
  go_wp2_with(refine be o λr q=>?_)
  go_ret;exact⟨by rw[q9 l];rfl,q⟩
def Ps.number(s:Ps):Int×Ps:=(vcq (s.take 8).1 8,(s.take 8).2)
def Ps.K(s:Ps)(most:Int):List UInt8×Ps:=(s.upTo most).2.take (s.upTo most).1
theorem Ps.upTo_le(s:Ps)(m:Int):(s.upTo m).1<=255:=by
 rw[Ps.upTo];have:=s.next.1.toNat_lt
 grind
theorem qc8{l:uk}(h:BytesAt w rb v l):(convert 65 9 v).run prog w=.ok (Y (BS l)) w:=by
 obtain⟨a,c,rfl,q,e⟩:=h
 cases l with
 | nil=>
  cases a with
  | none=>rw[show (A ([]:uk))=0 from rfl,run_convert_bytes_string w 65 9 5 O 0 c underlying65 underlying5 underlying9];rfl
  | some a=>exact run_convert_bytes_back (P:=prog) _ 65 9 5 a c [] underlying65 underlying5 underlying9 (λj d=>by simp at d)
 | cons x l=>
  obtain⟨b,o,rfl,_⟩:=e 0 x rfl;refine run_convert_bytes_back (P:=prog) _ 65 9 5 ⟨b,o,O⟩ c (x::l) underlying65 underlying5 underlying9 (λj d=>?_);obtain⟨r,i,f,_,u⟩:=e j _ (ag d);obtain⟨rfl,rfl⟩:=f;have g:(⟨b,o,O⟩:Addr).add j=⟨b,o+j,O⟩:=by cases j<;>simp[Addr.add]
  rwa[g]
theorem qfp(rb:Nat)(s:Ps)(m:Int)(w:Ao)(h:PsAt w rb s):
  uo 154 #[Ag (G (D rb 0 O)),I J m] w λe w'=>e=Ak (Y (BS (s.K m).1))/\PsAt w' rb (s.K m).2/\Kept rb w w':=by
 have ua:Hid _:=qd (xS rb s m w h);have l:Hid _:=qd (s.upTo_le m);rw[Ps.K];obtain⟨p,hp⟩:=ie (s.upTo m);rw[hp]at ua l |-;obtain⟨n,f⟩:=p;obtain⟨q,hq⟩:=ie (f.take n);have o:Hid (∀d,PsAt d rb f->uo 196 #[Ag (G (D rb 0 O)),I J n] d λe w'=>∃v,e=Ak v/\BytesAt w' (Z w'.1) v q.1/\PsAt w' rb q.2/\Kept rb d w'):=qd (by grind[qfn,Hid]);clear h hp l;show Calls _ _ _ _ λe w'=>e=Ak (Y (BS (f.take n).1))/\PsAt w' rb (f.take n).2/\Kept rb w w'
 rw[hq];clear hq;go_enter func154,ntmps154
 go_wp2_with(first|(go_at_call 104;refine be ua ?_;rintro d⟨j,u⟩;have j:=qd j)|(refine(o _ j).mono ?_;rintro e w2⟨v,rfl,g,i,r⟩;have i:=qd i;have z:=qc8 g;obtain⟨a,c,rfl,g⟩:=g;clear g))
 go_ret;exact⟨rfl,q9 i,u.trans r⟩
structure Tm where
 op:Nat
 left:Nat
 right:Nat
 M:Int
 str:List UInt8
 esc:List UInt8
def Tm.bare(op:Nat):Tm:=⟨op,0,0,0,[],[]⟩
def yH(t:Tm):List Ap:=[I J t.op,I J t.left,I J t.right,I J t.M,Y (BS t.str),Y (BS t.esc)]
def tmV(t:Tm):Ap:=Ai #[I J t.op,I J t.left,I J t.right,I J t.M,Y (BS t.str),Y (BS t.esc)]
def jH(op:Nat):Bool:=op==6||op==7||op==8||op==10||op==11||op==16||op==17||op==18||op==19
def Ps.body(s:Ps)(pl:Nat)(op:Nat):Tm×Ps:=
 if op=3\/op=4 then(.bare op,s)
 else if op=1 then(⟨op,0,0,s.number.1,[],[]⟩,s.number.2)
 else if op=22 then(⟨op,(s.upTo ((pl:Int) - 1)).1,0,0,(((s.upTo ((pl:Int) - 1)).2.K 1).2.K 200).1,((s.upTo ((pl:Int) - 1)).2.K 1).1⟩,(((s.upTo ((pl:Int) - 1)).2.K 1).2.K 200).2)
 else if op=0\/op=2 then(⟨op,0,0,0,(s.K 200).1,[]⟩,(s.K 200).2)
 else if jH op then(⟨op,((s.upTo ((pl:Int) - 1)).2.upTo ((pl:Int) - 1)).1,(s.upTo ((pl:Int) - 1)).1,0,[],[]⟩,((s.upTo ((pl:Int) - 1)).2.upTo ((pl:Int) - 1)).2)
 else if op=5\/op=23 then(⟨op,(s.upTo ((pl:Int) - 1)).1,0,0,[],[]⟩,(s.upTo ((pl:Int) - 1)).2)
 else(.bare op,failS)
def Ps.term(s:Ps)(pl:Nat):Tm×Ps:=s.next.2.body pl s.next.1.toNat
structure TmAt(w:Ao)(b:Nat)(t:Tm):Prop where
 lt:b<w.1.size
 c0:w.cell? ⟨b,0,O⟩=G (I J t.op)
 c1:w.cell? ⟨b,1,O⟩=G (I J t.left)
 c2:w.cell? ⟨b,2,O⟩=G (I J t.right)
 c3:w.cell? ⟨b,3,O⟩=G (I J t.M)
 c4:w.cell? ⟨b,4,O⟩=G (Y (BS t.str))
 c5:w.cell? ⟨b,5,O⟩=G (Y (BS t.esc))
 fz:∀j,w.frozen? ⟨b,j,O⟩=uh
theorem TmAt.same{t:Tm}(h:TmAt w b t)(d:b<Z w'.1)(e:w'.1[b]?=w.1[b]?):TmAt w' b t:=by
 grind[World.cell?,World.frozen?_of_block,Below.trans,TmAt,Tm]
theorem TmAt.P{t:Tm}(h:TmAt w b t)(d:Kept rb w w')(e:¬b=rb):TmAt w' b t:=
 h.same (au h.lt d.size) (d.block b h.lt e)
theorem TmAt.alloc{t:Tm}(h:TmAt w b t)(o:Obj):TmAt (w.alloc o) b t:=by grind[TmAt.same,World.alloc,TmAt]
theorem TmAt.other{t:Tm}(h:TmAt w b t){p:Addr}(hp:¬p.block=b)(u:Ap):TmAt (B w p u) b t:=by grind[TmAt.same,Below.heap_setCell,TmAt]
theorem TmAt.new(w:Ao)(n:Nat)(ty:TypeId):TmAt (w.alloc (Al #[I J n,I J 0,I J 0,I J 0,Y ⟨#[]⟩,Y ⟨#[]⟩] ty)) (Z w.1) (.bare n):=by
 refine⟨ur, ?_, ?_, ?_, ?_, ?_, ?_,λj=>?_⟩<;>simp[go_sem,Tm.bare]<;>rfl
theorem TmAt.left'{t:Tm}(h:TmAt w b t)(n:Nat):TmAt (B w (D b 1 O) (I J n)) b { t with left:=n }:=by
 cases h;constructor<;>simp_all [go_sem]
theorem TmAt.right'{t:Tm}(h:TmAt w b t)(n:Nat):TmAt (B w (D b 2 O) (I J n)) b { t with right:=n }:=by
 cases h;constructor<;>simp_all [go_sem]
theorem TmAt.esc'{t:Tm}(h:TmAt w b t)(l:uk):TmAt (B w (D b 5 O) (Y (BS l))) b { t with esc:=l }:=by
 cases h;constructor<;>simp_all [go_sem]
def xF(rb:Nat)(w:Ao)(r:Tm×Ps)(e:Ending)(w':Ao):Prop:=e=Ak (tmV r.1)/\PsAt w' rb r.2/\Kept rb w w'
theorem TmAt.full{d:Tm}(h:TmAt w b d)(t:Tm)(l:v0=I J t.op)(j:v1=I J t.left)(i:v2=I J t.right)(g:v3=I J t.M)(f:v4=Y (BS t.str))(e:v5=Y (BS t.esc)):
  TmAt (B (B (B (B (B (B w (D b 0 O) v0) (D b 1 O) v1) (D b 2 O) v2) (D b 3 O) v3) (D b 4 O) v4) (D b 5 O) v5) b t:=by
 cases h;constructor<;>simp_all [go_sem]
theorem qhp{t:Tm}(h:TmAt W ud t)(a:Array Ap)(e:a.getD 4 undef=Ag (G (D ud 0 O))):(results Tryz.f105 a).run prog W=.ok (tmV t) W:=by
 obtain⟨l,c0,j,i,g,c4,f,fz⟩:=h;have d:a[4]?.getD undef=Ag (G (D ud 0 O)):=by simpa using e
 simp[go_sem,d,c0,j,i,g,c4,f,tmV]
theorem qbp{f:Tm}{r:Tm×Ps}(j:TmAt W ud f)(h:PsAt W rb r.2)(i:Kept rb w W)(e:rb<ud)(d:Z w.1<=ud)(g:a.tmps.getD 4 undef=Ag (G (D ud 0 O)))(hd:a.defers=[])
  (A:v0=I J r.1.op) (z:v1=I J r.1.left) (u:v2=I J r.1.right) (q:v3=I J r.1.M) (o:v4=Y (BS r.1.str)) (l:v5=Y (BS r.1.esc)) :
  bodyPost prog Tryz.f105 (xF rb w r) Exit.ret a (B (B (B (B (B (B W (D ud 0 O) v0) (D ud 1 O) v1) (D ud 2 O) v2) (D ud 3 O) v3) (D ud 4 O) v4) (D ud 5 O) v5):=
 bo (qhp (j.full r.1 A z u q o l) _ g) hd ⟨rfl,((((((h.later e _).later e _).later e _).later e _).later e _).later e _),((((((i.later d _).later d _).later d _).later d _).later d _).later d _)⟩
theorem qyp{f:Tm}{r:Tm×Ps}{o:Obj}(j:TmAt W ud f)(h:PsAt W rb r.2)(i:Kept rb w W)(e:rb<ud)(d:Z w.1<=ud)(g:a.tmps.getD 4 undef=Ag (G (D ud 0 O)))(hd:a.defers=[])
  (C:v0=I J r.1.op) (A:v1=I J r.1.left) (z:v2=I J r.1.right) (u:v3=I J r.1.M) (q:v4=Y (BS r.1.str)) (l:v5=Y (BS r.1.esc)) :
  bodyPost prog Tryz.f105 (xF rb w r) Exit.ret a ((B (B (B (B (B (B W (D ud 0 O) v0) (D ud 1 O) v1) (D ud 2 O) v2) (D ud 3 O) v3) (D ud 4 O) v4) (D ud 5 O) v5).alloc o):=
 bo (qhp ((j.full r.1 C A z u q l).alloc o) _ g) hd ⟨rfl,((((((h.later e _).later e _).later e _).later e _).later e _).later e _).alloc o,((((((i.later d _).later d _).later d _).later d _).later d _).later d _).alloc o⟩
set_option linter.unusedSimpArgs false
set_option linter.unusedVariables false
theorem vdc(rb:Nat)(s:Ps)(pl:Nat)(w:Ao)(op:Nat)(H:op=3\/op=4)(h:PsAt w rb s)(R:pl<=255)(i:s.next.1.toNat=op):
  uo 105 #[Ag (G (D rb 0 O)),I J pl] w (xF rb w (s.next.2.body pl op)):=by
 have M:=h.lt;have n0:¬Z w.1=rb:=uq;have K:Hid (∀o,PsAt (w.alloc o) rb s):=qd λo=>h.alloc o
 have ua:Hid (∀w,PsAt w rb s->_):=qd λw h=>kF rb s w h
 rw[i]at ua;obtain⟨g,q⟩:=ie s.next.2;rw[q]at ua |-;have j:g.body pl op=(⟨op,0,0,0,[],[]⟩,g):=by grind[Ps.body,Tm.bare]
 have L:Hid (∀(d:Ao) ty,TmAt (d.alloc (Al #[I J (op:Nat),I J 0,I J 0,I J 0,Y ⟨#[]⟩,Y ⟨#[]⟩] ty)) (Z d.1) (.bare op)):=qd λd ty=>TmAt.new d op ty
 rw[j];clear h j i q;obtain rfl|rfl:=H
 all_goals
  go_enter func105,ntmps105
  go_wp2_with(first|(refine be (ua _ (K _)) ?_;rintro d⟨e,f⟩;have e:=qd e;have l:=qd ((TmAt.new w 0 187).P f n0);obtain⟨r,E,C,B,A,z,u,P⟩:=q9 l;simp only[Tm.bare]at E C B A z u;have F:Hid (Kept rb w d):=qd (((Kept.refl rb w).alloc _).trans f);have Q:Z w.1<Z d.1:=r;have N:¬Z d.1=rb:=uq;have nab:¬Z w.1=Z d.1:=uq;have nba:¬Z d.1=Z w.1:=uq;have S:=qd (L d);clear f))
  exact qyp l e F M ux rfl rfl rfl rfl rfl rfl rfl rfl
theorem vkb(rb:Nat)(s:Ps)(pl:Nat)(w:Ao)(h:PsAt w rb s)(J5:pl<=255)(ho:s.next.1.toNat=22):
  uo 105 #[Ag (G (D rb 0 O)),I J pl] w (xF rb w (s.next.2.body pl 22)):=by
 have A1:=h.lt;have n0:¬Z w.1=rb:=uq;have HP:Hid (∀o,PsAt (w.alloc o) rb s):=qd λo=>h.alloc o
 have ua:Hid (∀w,PsAt w rb s->_):=qd λw h=>kF rb s w h
 rw[ho]at ua;obtain⟨E,M3⟩:=ie s.next.2;rw[M3]at ua |-;obtain⟨H,M7⟩:=ie (E.upTo ((pl:Int) - 1));have T2:Hid (∀w,PsAt w rb E->_):=qd λw h=>xS rb E ((pl:Int) - 1) w h
 rw[M7]at T2;obtain⟨F,mO⟩:=ie (H.2.K 1);have T3:Hid (∀w,PsAt w rb H.2->_):=qd λw h=>qfp rb H.2 1 w h
 rw[mO]at T3;obtain⟨p4,eF⟩:=ie (F.2.K 200);have T4:Hid (∀w,PsAt w rb F.2->_):=qd λw h=>qfp rb F.2 200 w h
 rw[eF]at T4;have hb:E.body pl 22=(⟨22,H.1,0,0,p4.1,F.1⟩,p4.2):=by grind[Ps.body]
 rw[hb];clear h hb ho M3 M7 mO eF;go_enter func105,ntmps105
 go_wp2_with(first|(go_at_call 154;refine be (T4 _ (S.later ut _)) ?_;rintro w4⟨R,M⟩;have R:=qd R;clear A j i g f e d B K z b1 b2 u r q L;have C:=qd ((TB.other (by simpa using nba) _).P M n0);have Z8:=qd ((F6.esc' _).P M Q);obtain⟨A,j,i,g,f,e,d,B⟩:=q9 C;simp only[Tm.bare]at j i g f e d;obtain⟨K,z,b1,b2,u,r,q,L⟩:=q9 Z8;simp only[Tm.bare]at z b1 b2 u r q;have K4:Hid (Kept rb w w4):=qd ((K3.later ut _).trans M);clear M)|(go_at_call 154;refine be (T3 _ (T.later ut _)) ?_;rintro w3⟨S,N⟩;have S:=qd S;clear A j i g f e d B K z b1 b2 u r q L;have TB:=qd ((oW.other (by simpa using nba) _).P N n0);have F6:=qd ((G3.left' _).P N Q);obtain⟨A,j,i,g,f,e,d,B⟩:=q9 TB;simp only[Tm.bare]at j i g f e d;obtain⟨K,z,b1,b2,u,r,q,L⟩:=q9 F6;simp only[Tm.bare]at z b1 b2 u r q;have K3:Hid (Kept rb w w3):=qd ((K2.later ut _).trans N);clear N)|(go_at_call 104;refine be (T2 _ (U.alloc _)) ?_;rintro w2⟨T,P⟩;have T:=qd T;clear A j i g f e d B;have oW:=qd ((cK.alloc _).P P n0);have G3:=qd ((D9 _).P P Q);obtain⟨A,j,i,g,f,e,d,B⟩:=q9 oW;simp only[Tm.bare]at j i g f e d;obtain⟨K,z,b1,b2,u,r,q,L⟩:=q9 G3;simp only[Tm.bare]at z b1 b2 u r q;have K2:Hid (Kept rb w w2):=qd ((K1.alloc _).trans P);clear P)|(refine be (ua _ (HP _)) ?_;rintro l⟨U,X⟩;have U:=qd U;have cK:=qd ((TmAt.new w 0 187).P X n0);obtain⟨A,j,i,g,f,e,d,B⟩:=q9 cK;simp only[Tm.bare]at j i g f e d;have K1:Hid (Kept rb w l):=qd (((Kept.refl rb w).alloc _).trans X);have TD:Z w.1<Z l.1:=A;have Q:¬Z l.1=rb:=uq;have nab:¬Z w.1=Z l.1:=uq;have nba:¬Z l.1=Z w.1:=uq;have D9:Hid (∀ty,TmAt (l.alloc (Al #[I J (22:Nat),I J 0,I J 0,I J 0,Y ⟨#[]⟩,Y ⟨#[]⟩] ty)) (Z l.1) (.bare 22)):=qd (λty=>TmAt.new l 22 ty);clear X))
 exact qbp (C.other (by simpa using nba) _) (R.later ut _) (K4.later ut _) A1 ux rfl rfl rfl rfl rfl rfl rfl rfl
theorem gn(rb:Nat)(s:Ps)(pl:Nat)(w:Ao)(op:Nat)(I4:op=6\/op=7\/op=8\/op=10\/op=11\/op=16\/op=17\/op=18\/op=19)(h:PsAt w rb s)(J5:pl<=255)(U:s.next.1.toNat=op):
  uo 105 #[Ag (G (D rb 0 O)),I J pl] w (xF rb w (s.next.2.body pl op)):=by
 have A1:=h.lt;have n0:¬Z w.1=rb:=uq;have HP:Hid (∀o,PsAt (w.alloc o) rb s):=qd λo=>h.alloc o
 have ua:Hid (∀w,PsAt w rb s->_):=qd λw h=>kF rb s w h
 rw[U]at ua;obtain⟨r,M3⟩:=ie s.next.2;rw[M3]at ua |-;obtain⟨u,L⟩:=ie (r.upTo ((pl:Int) - 1));have T2:Hid (∀w,PsAt w rb r->_):=qd λw h=>xS rb r ((pl:Int) - 1) w h
 rw[L]at T2;obtain⟨R,K⟩:=ie (u.2.upTo ((pl:Int) - 1));have T3:Hid (∀w,PsAt w rb u.2->_):=qd λw h=>xS rb u.2 ((pl:Int) - 1) w h
 rw[K]at T3;have X:r.body pl op=(⟨op,R.1,u.1,0,[],[]⟩,R.2):=by obtain rfl|rfl|rfl|rfl|rfl|rfl|rfl|rfl|rfl:=I4<;>simp[Ps.body,jH,Tm.bare,L,K]
 have HN:Hid (∀(d:Ao) ty,TmAt (d.alloc (Al #[I J (op:Nat),I J 0,I J 0,I J 0,Y ⟨#[]⟩,Y ⟨#[]⟩] ty)) (Z d.1) (.bare op)):=qd λd ty=>TmAt.new d op ty
 rw[X];clear h X U M3 L K;obtain rfl|rfl|rfl|rfl|rfl|rfl|rfl|rfl|rfl:=I4
 all_goals
  go_enter func105,ntmps105
  go_wp2_with(first|(go_at_call 104;refine be (T3 _ (N.later ut _)) ?_;rintro w3⟨M,F⟩;have M:=qd M;clear q l j i g f e E bl C b1 b2 B A z bf;have TB:=qd ((S.other (by simpa using nba) _).P F n0);have F6:=qd ((G3.right' _).P F T);obtain⟨q,l,j,i,g,f,e,E⟩:=q9 TB;simp only[Tm.bare]at l j i g f e;obtain⟨bl,C,b1,b2,B,A,z,bf⟩:=q9 F6;simp only[Tm.bare]at C b1 b2 B A z;have K3:Hid (Kept rb w w3):=qd ((K2.later ut _).trans F);clear F)|(go_at_call 104;refine be (T2 _ (P.alloc _)) ?_;rintro w2⟨N,H⟩;have N:=qd N;clear q l j i g f e E;have S:=qd ((cK.alloc _).P H n0);have G3:=qd ((D9 _).P H T);obtain⟨q,l,j,i,g,f,e,E⟩:=q9 S;simp only[Tm.bare]at l j i g f e;obtain⟨bl,C,b1,b2,B,A,z,bf⟩:=q9 G3;simp only[Tm.bare]at C b1 b2 B A z;have K2:Hid (Kept rb w w2):=qd ((K1.alloc _).trans H);clear H)|(refine be (ua _ (HP _)) ?_;rintro d⟨P,Q⟩;have P:=qd P;have cK:=qd ((TmAt.new w 0 187).P Q n0);obtain⟨q,l,j,i,g,f,e,E⟩:=q9 cK;simp only[Tm.bare]at l j i g f e;have K1:Hid (Kept rb w d):=qd (((Kept.refl rb w).alloc _).trans Q);have TD:Z w.1<Z d.1:=q;have T:¬Z d.1=rb:=uq;have nab:¬Z w.1=Z d.1:=uq;have nba:¬Z d.1=Z w.1:=uq;have D9:=qd (HN d);clear Q))
  exact qbp (TB.other (by simpa using nba) _) (M.later ut _) (K3.later ut _) A1 ux rfl rfl rfl rfl rfl rfl rfl rfl
theorem qfo(rb:Nat)(s:Ps)(pl:Nat)(w:Ao)(op:Nat)(I4:op=5\/op=23\/op=0\/op=2\/op=1)(h:PsAt w rb s)(J5:pl<=255)(P:s.next.1.toNat=op):
  uo 105 #[Ag (G (D rb 0 O)),I J pl] w (xF rb w (s.next.2.body pl op)):=by
 have A1:=h.lt;have n0:¬Z w.1=rb:=uq;have HP:Hid (∀o,PsAt (w.alloc o) rb s):=qd λo=>h.alloc o
 have ua:Hid (∀w,PsAt w rb s->_):=qd λw h=>kF rb s w h
 rw[P]at ua;obtain⟨d,X⟩:=ie s.next.2;rw[X]at ua |-;obtain⟨M,E⟩:=ie (d.upTo ((pl:Int) - 1));have U:Hid (∀w,PsAt w rb d->_):=qd λw h=>xS rb d ((pl:Int) - 1) w h
 rw[E]at U;obtain⟨L,A⟩:=ie (d.K 200);have T3:Hid (∀w,PsAt w rb d->_):=qd λw h=>qfp rb d 200 w h
 rw[A]at T3;obtain⟨K,B⟩:=ie d.number;have T:Hid (∀w,PsAt w rb d->uo 153 #[Ag (G (D rb 0 O))] w λe w'=>e=Ak (I J (d.number).1)/\PsAt w' rb (d.number).2/\Kept rb w w'):=qd λw h=>qs7 rb d w h
 rw[B]at T;have Q:d.body pl op=if op=1 then(⟨1,0,0,K.1,[],[]⟩,K.2) else if op=0\/op=2 then(⟨op,0,0,0,L.1,[]⟩,L.2) else(⟨op,M.1,0,0,[],[]⟩,M.2):=by obtain rfl|rfl|rfl|rfl|rfl:=I4<;>simp[Ps.body,jH,Tm.bare,E,A,B]
 have HN:Hid (∀(f:Ao) ty,TmAt (f.alloc (Al #[I J (op:Nat),I J 0,I J 0,I J 0,Y ⟨#[]⟩,Y ⟨#[]⟩] ty)) (Z f.1) (.bare op)):=qd λf ty=>TmAt.new f op ty
 rw[Q];clear h Q P X E A B;obtain rfl|rfl|rfl|rfl|rfl:=I4
 all_goals
  simp(decide:=true) only[if_true,if_false];go_enter func105,ntmps105
  go_wp2_with(first|((first|(go_at_call 104;refine(U _ (g.alloc _)).mono ?_)|(go_at_call 154;refine(T3 _ (g.alloc _)).mono ?_)|(go_at_call 153;refine(T _ (g.alloc _)).mono ?_));rintro e w2⟨rfl,F,z⟩;have F:=qd F;clear C u r q l j i S;have N:=qd ((R.alloc _).P z n0);have G3:=qd ((D9 _).P z nb);obtain⟨C,u,r,q,l,j,i,S⟩:=q9 N;simp only[Tm.bare]at u r q l j i;obtain⟨bl,b0,b1,b2,b3,b4,b5,bf⟩:=q9 G3;simp only[Tm.bare]at b0 b1 b2 b3 b4 b5;have K2:Hid (Kept rb w w2):=qd ((K1.alloc _).trans z);clear z)|(refine be (ua _ (HP _)) ?_;rintro f⟨g,H⟩;have g:=qd g;have R:=qd ((TmAt.new w 0 187).P H n0);obtain⟨C,u,r,q,l,j,i,S⟩:=q9 R;simp only[Tm.bare]at u r q l j i;have K1:Hid (Kept rb w f):=qd (((Kept.refl rb w).alloc _).trans H);have TD:Z w.1<Z f.1:=C;have nb:¬Z f.1=rb:=uq;have nab:¬Z w.1=Z f.1:=uq;have nba:¬Z f.1=Z w.1:=uq;have D9:=qd (HN f);clear H))
  exact qbp (N.other (by simpa using nba) _) (F.later ut _) (K2.later ut _) A1 ux rfl rfl rfl rfl rfl rfl rfl rfl
theorem vsf(rb:Nat)(s:Ps)(pl:Nat)(w:Ao)(h:PsAt w rb s)(J5:pl<=255)(op:Nat)(I4:op<256)(o3:¬op=3)(o4:¬op=4)(o1:¬op=1)(z:¬op=22)(o0:¬op=0)(o2:¬op=2)(o6:¬op=6)(o7:¬op=7)(o8:¬op=8)(H:¬op=10)(F:¬op=11)(E:¬op=16)(C:¬op=17)(B:¬op=18)(A:¬op=19)(o5:¬op=5)(u:¬op=23)(R:s.next.1.toNat=op):
  uo 105 #[Ag (G (D rb 0 O)),I J pl] w (xF rb w (s.next.2.body pl op)):=by
 have A1:=h.lt;have n0:¬Z w.1=rb:=uq;have HP:Hid (∀o,PsAt (w.alloc o) rb s):=qd λo=>h.alloc o
 have ua:Hid (∀w,PsAt w rb s->_):=qd λw h=>kF rb s w h
 rw[R]at ua;obtain⟨r,X⟩:=ie s.next.2;rw[X]at ua |-;have T2:Hid (∀w,PsAt w rb r->_):=qd λw h=>qfm rb r w h
 have K:jH op=uh:=by simp[jH, *]
 have S:r.body pl op=(⟨op,0,0,0,[],[]⟩,failS):=by grind[Ps.body,Tm.bare]
 rw[S];have U4:=it op;have fQ:(op:Int)<256:=uq;have e3:((op:Int)==3)=uh:=by grind
 have e4:((op:Int)==4)=uh:=by grind
 have e1:((op:Int)==1)=uh:=by grind
 have PU:((op:Int)==22)=uh:=by grind
 have e0:((op:Int)==0)=uh:=by grind
 have e2:((op:Int)==2)=uh:=by grind
 have e6:((op:Int)==6)=uh:=by grind
 have e7:((op:Int)==7)=uh:=by grind
 have e8:((op:Int)==8)=uh:=by grind
 have IE:((op:Int)==10)=uh:=by grind
 have LE:((op:Int)==11)=uh:=by grind
 have QA:((op:Int)==16)=uh:=by grind
 have PW:((op:Int)==17)=uh:=by grind
 have VQ:((op:Int)==18)=uh:=by grind
 have VP:((op:Int)==19)=uh:=by grind
 have e5:((op:Int)==5)=uh:=by grind
 have LD:((op:Int)==23)=uh:=by grind
 clear o3 o4 o1 z o0 o2 o6 o7 o8 H F E C B A o5 u K I4;clear h S R X;go_enter func105,ntmps105
 go_wp2_with(first|(go_at_call 152;refine be (T2 _ (N.alloc _)) ?_;rintro w2⟨M,q⟩;have M:=qd M;clear L l j i g f e U;have Q:=qd ((T.alloc _).P q n0);have G3:=qd ((D9 _).P q nb);obtain⟨L,l,j,i,g,f,e,U⟩:=q9 Q;simp only[Tm.bare]at l j i g f e;obtain⟨bl,b0,b1,b2,b3,b4,b5,bf⟩:=q9 G3;simp only[Tm.bare]at b0 b1 b2 b3 b4 b5;have K2:Hid (Kept rb w w2):=qd ((K1.alloc _).trans q);clear q)|(refine be (ua _ (HP _)) ?_;rintro d⟨N,P⟩;have N:=qd N;have T:=qd ((TmAt.new w 0 187).P P n0);obtain⟨L,l,j,i,g,f,e,U⟩:=q9 T;simp only[Tm.bare]at l j i g f e;have K1:Hid (Kept rb w d):=qd (((Kept.refl rb w).alloc _).trans P);have TD:Z w.1<Z d.1:=L;have nb:¬Z d.1=rb:=uq;have nab:¬Z w.1=Z d.1:=uq;have nba:¬Z d.1=Z w.1:=uq;have D9:Hid (∀ty,TmAt (d.alloc (Al #[I J (op:Nat),I J 0,I J 0,I J 0,Y ⟨#[]⟩,Y ⟨#[]⟩] ty)) (Z d.1) (.bare op)):=qd (λty=>TmAt.new d op ty);clear P))
 exact qbp Q M K2 A1 ux rfl rfl rfl rfl rfl rfl rfl rfl
theorem vdb(rb:Nat)(s:Ps)(pl:Nat)(w:Ao)(h:PsAt w rb s)(e:pl<=255):
  uo 105 #[Ag (G (D rb 0 O)),I J pl] w (xF rb w (s.term pl)):=by
 rw[Ps.term];obtain⟨n,d⟩:=ie s.next.1.toNat;have f:n<256:=md s.next.1.toNat_lt
 grind[vkb,vsf,vdc,gn,qfo,Ps.body]
def qtb(s:Ps)(pl:Nat):Prop:=∀(rb:Nat) (w:Ao),PsAt w rb s->Calls prog 105 #[Ag (G (D rb 0 O)),I J pl] w (xF rb w (s.term pl))
theorem qpg(s:Ps)(pl:Nat)(d:pl<=255):qtb s pl:=by grind[vdb,qtb]
theorem vi6(e:uk):A (qks e)<=2 * A e+10:=by
 have:=qb8 e;unfold qks
 split
 simp;simp;omega
theorem qvu(w:Ao)(k:Nat)(os:Array Obj):Xb w (Sort.grow (w.drewN k) os):=
 ⟨rfl,rfl,rfl,by first|(simp[Sort.grow])|(simp[Sort.grow];omega),λi d=>by
  show((w.drewN k).1++os)[i]?=_;rw[Array.getElem?_append_left (by show i<Z w.1;omega)]
  rfl⟩
structure SpA(w:Ao)(b:Nat)(p:CP)(l r:Ap):Prop where
 lib:LibOk w
 lt:b<w.1.size
 c0:w.cell? ⟨b,0,O⟩=G (I J p.op)
 c1:w.cell? ⟨b,1,O⟩=G l
 c2:w.cell? ⟨b,2,O⟩=G r
 c3:w.cell? ⟨b,3,O⟩=G (I J p.M)
 c4:w.cell? ⟨b,4,O⟩=G (Y (BS p.str))
 c5:w.cell? ⟨b,5,O⟩=G (Y (BS p.esc))
 rng:Rng p.M
 s4:A p.str<=1000000000
 s5:A p.esc<=1000000000
theorem vt1(w:Ao)(b:Nat)(p:CP)(l r:Ap)(h:SpA w b p l r)(lt rt:uk)(d:p.op=0):
  lz 195 #[at0 b] w (Y (BS (qK p lt rt))):=by
 have e:(p.op==0)=ui:=by rw[d];rfl
 have c0:=h.c0
 have hv:qK p lt rt=p.str:=by
  unfold qK;rw[e];rfl
 rw[hv];unfold at0;have c4:=h.c4;go_enter func195,ntmps195
 go_wp2
 go_ret;exact⟨rfl,uy⟩
theorem vt2(w:Ao)(b:Nat)(p:CP)(l r:Ap)(h:SpA w b p l r)(lt rt:uk)(d:p.op=1):
  Calls prog 195 #[at0 b] w λe w'=>e=Ak (Y (BS (qK p lt rt)))/\Xb w w':=by
 have g:(p.op==0)=uh:=by rw[d];rfl
 have f:(p.op==1)=ui:=by rw[d];rfl
 have c0:=h.c0
 have hv:qK p lt rt=Lib.itoa p.M:=by
  unfold qK;rw[g,f];rfl
 rw[hv];unfold at0;have c3:=h.c3;have i:=qd (Tryz.strconv_FormatInt_10 p.M h.rng.1 h.rng.2 w h.lib.pow);go_enter func195,ntmps195
 go_wp2_with(refine be i ?_;rintro j⟨k,os,rfl⟩)
 go_ret;exact⟨rfl,qvu w k os⟩
theorem vt3(w:Ao)(b:Nat)(p:CP)(l r:Ap)(h:SpA w b p l r)(lt rt:uk)(d:p.op=2):
  lz 195 #[at0 b] w (Y (BS (qK p lt rt))):=by
 have g:(p.op==0)=uh:=by rw[d];rfl
 have f:(p.op==1)=uh:=by rw[d];rfl
 have e:(p.op==2)=ui:=by rw[d];rfl
 have c0:=h.c0
 have hv:qK p lt rt=qL p.str:=by
  unfold qK;rw[g,f,e];rfl
 rw[hv];unfold at0;have c4:=h.c4;have i:=qd (qae p.str h.s4 w h.lib);go_enter func195,ntmps195
 go_wp2_with(refine be i λo j=>?_)
 go_ret;exact⟨rfl,j⟩
theorem vt4(w:Ao)(b:Nat)(p:CP)(l r:Ap)(h:SpA w b p l r)(lt rt:uk)(d:p.op=3):
  lz 195 #[at0 b] w (Y (BS (qK p lt rt))):=by
 have i:(p.op==0)=uh:=by rw[d];rfl
 have g:(p.op==1)=uh:=by rw[d];rfl
 have f:(p.op==2)=uh:=by rw[d];rfl
 have e:(p.op==3)=ui:=by rw[d];rfl
 have c0:=h.c0
 have hv:qK p lt rt=[84,82,85,69]:=by
  unfold qK;rw[i,g,f,e];rfl
 rw[hv];unfold at0;go_enter func195,ntmps195
 go_wp2
 go_ret;exact⟨rfl,uy⟩
theorem vt5(w:Ao)(b:Nat)(p:CP)(l r:Ap)(h:SpA w b p l r)(lt rt:uk)(d:p.op=4):
  lz 195 #[at0 b] w (Y (BS (qK p lt rt))):=by
 have j:(p.op==0)=uh:=by rw[d];rfl
 have i:(p.op==1)=uh:=by rw[d];rfl
 have g:(p.op==2)=uh:=by rw[d];rfl
 have f:(p.op==3)=uh:=by rw[d];rfl
 have e:(p.op==4)=ui:=by rw[d];rfl
 have c0:=h.c0
 have hv:qK p lt rt=[70,65,76,83,69]:=by
  unfold qK;rw[j,i,g,f,e];rfl
 rw[hv];unfold at0;go_enter func195,ntmps195
 go_wp2
 go_ret;exact⟨rfl,uy⟩
theorem vt6(w:Ao)(b:Nat)(p:CP)(l r:Ap)(h:SpA w b p l r)(lt rt:uk)(j:TextAt w l lt)(G:A lt<=1000000000)(d:p.op=5):
  lz 195 #[at0 b] w (Y (BS (qK p lt rt))):=by
 have C:(p.op==0)=uh:=by rw[d];rfl
 have B:(p.op==1)=uh:=by rw[d];rfl
 have z:(p.op==2)=uh:=by rw[d];rfl
 have u:(p.op==3)=uh:=by rw[d];rfl
 have q:(p.op==4)=uh:=by rw[d];rfl
 have o:(p.op==5)=ui:=by rw[d];rfl
 have c0:=h.c0
 have hv:qK p lt rt=[40,78,79,84,32]++lt++[41]:=by
  unfold qK;rw[C,B,z,u,q,o];rfl
 rw[hv];unfold at0;obtain⟨lb,rfl,K,H⟩:=j;unfold at0 at h;have c1:=h.c1;obtain⟨E,f,e,J⟩:=jE ⟨#[40,78,79,84,32]⟩ (BS lt) 5 1000000000 ux (by rw[qI];omega) uu;obtain⟨D,g,i,I⟩:=jE E ⟨#[41]⟩ 1000000005 1 e ux uu
 have F:Hid (D=BS ([40,78,79,84,32]++lt++[41])):=qd (by
  rw[g,f,show(⟨#[40,78,79,84,32]⟩:uj)=BS [40,78,79,84,32] from rfl,show(⟨#[41]⟩:uj)=BS [41] from rfl,zh,zh])
 clear f e g i;go_enter func195,ntmps195
 go_wp2
 go_ret;exact⟨by rw[q9 F];rfl,uy⟩
theorem vmr(w:Ao)(b:Nat)(p:CP)(l r:Ap)(h:SpA w b p l r)(lt rt:uk)(j:TextAt w l lt)(H:A lt<=1000000000)(d:p.op=23):
  lz 195 #[at0 b] w (Y (BS (qK p lt rt))):=by
 have C:(p.op==0)=uh:=by rw[d];rfl
 have B:(p.op==1)=uh:=by rw[d];rfl
 have z:(p.op==2)=uh:=by rw[d];rfl
 have u:(p.op==3)=uh:=by rw[d];rfl
 have q:(p.op==4)=uh:=by rw[d];rfl
 have o:(p.op==5)=uh:=by rw[d];rfl
 have F:(p.op==23)=ui:=by rw[d];rfl
 have c0:=h.c0
 have hv:qK p lt rt=[40]++lt++[32,73,83,32,78,85,76,76,41]:=by
  unfold qK;rw[C,B,z,u,q,o,F];rfl
 rw[hv];unfold at0;obtain⟨lb,rfl,L,I⟩:=j;unfold at0 at h;have c1:=h.c1;obtain⟨E,f,e,K⟩:=jE ⟨#[40]⟩ (BS lt) 1 1000000000 ux (by rw[qI];omega) uu;obtain⟨D,g,i,J⟩:=jE E ⟨#[32,73,83,32,78,85,76,76,41]⟩ 1000000001 9 e ux uu
 have G:Hid (D=BS ([40]++lt++[32,73,83,32,78,85,76,76,41])):=qd (by
  rw[g,f,show(⟨#[40]⟩:uj)=BS [40] from rfl,show(⟨#[32,73,83,32,78,85,76,76,41]⟩:uj)=BS [32,73,83,32,78,85,76,76,41] from rfl,zh,zh])
 clear f e g i;go_enter func195,ntmps195
 go_wp2
 go_ret;exact⟨by rw[q9 G];rfl,uy⟩
theorem vmq(w:Ao)(b:Nat)(p:CP)(l r:Ap)(h:SpA w b p l r)(lt rt:uk)(M:TextAt w l lt)(zl:A lt<=1000000000)(f:p.op=22):
  lz 195 #[at0 b] w (Y (BS (qK p lt rt))):=by
 have T:(p.op==0)=uh:=by rw[f];rfl
 have S:(p.op==1)=uh:=by rw[f];rfl
 have R:(p.op==2)=uh:=by rw[f];rfl
 have Q:(p.op==3)=uh:=by rw[f];rfl
 have P:(p.op==4)=uh:=by rw[f];rfl
 have N:(p.op==5)=uh:=by rw[f];rfl
 have LD:(p.op==23)=uh:=by rw[f];rfl
 have PU:(p.op==22)=ui:=by rw[f];rfl
 have c0:=h.c0
 have hv:qK p lt rt=[40]++lt++[32,76,73,75,69,32]++qL p.str++qks p.esc++[41]:=by
  unfold qK;rw[T,S,R,Q,P,N,LD,PU];rfl
 rw[hv];unfold at0;obtain⟨lb,rfl,U,K⟩:=M;unfold at0 at h;have c1:=h.c1;have c4:=h.c4;have c5:=h.c5;have j:=h.lt;have hq:=qb8 p.str;have s4:=h.s4;have s5:=h.s5;have L:=vi6 p.esc;obtain⟨R1,H,B,a1⟩:=jE ⟨#[40]⟩ (BS lt) 1 1000000000 ux (by rw[qI];omega) uu;obtain⟨R2,I,z,a2⟩:=jE R1 ⟨#[32,76,73,75,69,32]⟩ 1000000001 6 B ux uu;obtain⟨R3,C,u,a3⟩:=jE R2 (BS (qL p.str)) 1000000007 2000000002 z (by rw[qI];omega) uu;obtain⟨Z,E,q,a4⟩:=jE R3 (BS (qks p.esc)) 3000000009 2000000010 u (by rw[qI];omega) uu;obtain⟨X,F,J,a5⟩:=jE Z ⟨#[41]⟩ 5000000019 1 q ux uu
 have HR:Hid (X=BS ([40]++lt++[32,76,73,75,69,32]++qL p.str++qks p.esc++[41])):=qd (by
  rw[F,E,C,I,H,show(⟨#[40]⟩:uj)=BS [40] from rfl,show(⟨#[32,76,73,75,69,32]⟩:uj)=BS [32,76,73,75,69,32] from rfl,show(⟨#[41]⟩:uj)=BS [41] from rfl,zh,zh,zh,zh,zh])
 clear H B I z C u E q F J;have HQ:Hid (∀d,Xb w d->lz 221 #[Y (BS p.str)] d (Y (BS (qL p.str)))):=qd (λd g=>qae p.str s4 d (h.lib.h g ux));have HS:Hid (∀d,Xb w d->lz 222 #[Ag (G (D b 0 O))] d (Y (BS (qks p.esc)))):=qd (λd g=>qgb b p.esc s5 d (h.lib.h g ux) ((g.cell (p:=D b 5 O) j).trans c5));have e:Hid (Xb w w.drew):=qd uy.drew;go_enter func195,ntmps195
 go_wp2
 go_region_held3 (λW=>Xc W b 1 (Ag (G (D lb 0 O)))/\Xc W lb 6 (Y (BS lt))/\Xc W b 4 (Y (BS p.str))) (go_keep) (first|(go_at_call 221;refine be (HQ _ e) λd o=>?_;replace e:=qd (qg e o);obtain⟨i,G4⟩:=qi e;have d1:=(i b 1 j).trans c1;have d2:=(i lb 6 U).trans K;have d3:=(i b 4 j).trans c4)|(go_at_call 222;refine be (HS _ e) λd o=>?_;replace e:=qd (qg e o);obtain⟨i,G4⟩:=qi e))
 all_goals(go_wp2;go_ret;exact⟨by rw[q9 HR];rfl,q9 e⟩)
theorem vf8(w:Ao)(b:Nat)(p:CP)(l r:Ap)(h:SpA w b p l r)(lt rt:uk)(K:TextAt w l lt)(zl:A lt<=1000000000)(H:TextAt w r rt)(zr:A rt<=1000000000)(R:¬p.op=0)(Q:¬p.op=1)(P:¬p.op=2)(N:¬p.op=3)(M:¬p.op=4)(L:¬p.op=5)(O9:¬p.op=23)(T9:¬p.op=22):
  lz 195 #[at0 b] w (Y (BS (qK p lt rt))):=by
 have e0:(p.op==0)=uh:=aw.2 R;have Z:(p.op==1)=uh:=aw.2 Q;have X:(p.op==2)=uh:=aw.2 P;have U:(p.op==3)=uh:=aw.2 N;have T:(p.op==4)=uh:=aw.2 M;have S:(p.op==5)=uh:=aw.2 L;have LD:(p.op==23)=uh:=aw.2 O9;have PU:(p.op==22)=uh:=aw.2 T9;have c0:=h.c0
 have hv:qK p lt rt=[40]++lt++[32]++jJ p.op++[32]++rt++[41]:=by
  unfold qK;rw[e0,Z,X,U,T,S,LD,PU];rfl
 rw[hv];unfold at0;obtain⟨lb,rfl,T0,lc⟩:=K;obtain⟨rb,rfl,cC,rc⟩:=H;unfold at0 at h;have c1:=h.c1;have c2:=h.c2;have F:=qg9 p.op;obtain⟨R1,u,i,a1⟩:=jE ⟨#[40]⟩ (BS lt) 1 1000000000 ux (by rw[qI];omega) uu;obtain⟨R2,z,g,a2⟩:=jE R1 ⟨#[32]⟩ 1000000001 1 i ux uu;obtain⟨R3,j,f,a3⟩:=jE R2 (BS (jJ p.op)) 1000000002 1000 g (by rw[qI];omega) uu;obtain⟨R4,o,e,a4⟩:=jE R3 ⟨#[32]⟩ 1000001002 1 f ux uu;obtain⟨R5,q,d,a5⟩:=jE R4 (BS rt) 1000001003 1000000000 e (by rw[qI];omega) uu;obtain⟨R6,B,C,a6⟩:=jE R5 ⟨#[41]⟩ 2000001003 1 d ux uu
 have HR:Hid (R6=BS ([40]++lt++[32]++jJ p.op++[32]++rt++[41])):=qd (by
  rw[B,q,o,j,z,u,show(⟨#[40]⟩:uj)=BS [40] from rfl,show(⟨#[32]⟩:uj)=BS [32] from rfl,show(⟨#[41]⟩:uj)=BS [41] from rfl,zh,zh,zh,zh,zh,zh])
 clear u i z g j f o e q d B C;go_enter func195,ntmps195
 go_wp2
 go_region_held3 (λW=>Xc W b 0 (I J p.op)/\Xc W b 1 (Ag (G (D lb 0 O)))/\Xc W lb 6 (Y (BS lt))/\Xc W b 2 (Ag (G (D rb 0 O)))/\Xc W rb 6 (Y (BS rt))) (go_keep) (first|(go_at_call 223;refine be (vao _ _) λE eT=>?_;subst E))
 all_goals(go_wp2;go_ret;exact⟨by rw[q9 HR];rfl,uy.drew⟩)
def unB(op:Int):Bool:=op==5||op==22||op==23
def jp(op:Int):Bool:=op==0||op==1||op==2||op==3||op==4
theorem vf7(w:Ao)(b:Nat)(p:CP)(l r:Ap)(h:SpA w b p l r)(lt rt:uk)(d:A lt<=1000000000)(g:A rt<=1000000000)
  (f:jp p.op=uh->TextAt w l lt) (i:jp p.op=uh->unB p.op=uh->TextAt w r rt) :
  lz 195 #[at0 b] w (Y (BS (qK p lt rt))):=by
 by_cases h0:p.op=0
 .exact vt1 w b p l r h lt rt h0
 by_cases h1:p.op=1
 .exact vt2 w b p l r h lt rt h1
 by_cases h2:p.op=2
 .exact vt3 w b p l r h lt rt h2
 by_cases h3:p.op=3
 .exact vt4 w b p l r h lt rt h3
 by_cases h4:p.op=4
 .exact vt5 w b p l r h lt rt h4
 have e:=f (by grind[jp])
 by_cases h5:p.op=5
 .exact vt6 w b p l r h lt rt e d h5
 by_cases O9:p.op=23
 .exact vmr w b p l r h lt rt e d O9
 by_cases T9:p.op=22
 .exact vmq w b p l r h lt rt e d T9
 grind[jp,vf8,unB]
def coV(p:CP)(l r:Ap):Ap:=Ai #[I J p.op,l,r,I J p.M,Y (BS p.str),Y (BS p.esc),Y ⟨#[]⟩]
theorem TextAt.h{t:uk}(h:TextAt w v t)(d:Xb w w'):TextAt w' v t:=by
 obtain⟨b,rfl,e,f⟩:=h;exact⟨b,rfl,au e d.size,(d.cell (p:=D b 6 O) e).trans f⟩
theorem qap(w:Ao)(G:LibOk w)(p:CP)(l r:Ap)(lt rt:uk)(E:Rng p.M)(K:A p.str<=1000000000)(H:A p.esc<=1000000000)(z:A lt<=1000000000)(u:A rt<=1000000000)
  (T:∃a,l=Ag a) (g:∃a,r=Ag a)
  (F:jp p.op=uh->TextAt w l lt) (D:jp p.op=uh->unB p.op=uh->TextAt w r rt) :
  uo 142 #[coV p l r] w λe w'=>e=Ak (at0 (Z w.1))/\CellsC (Z w.1) (Z w'.1) w' (Z w.1) p l r (qK p lt rt)/\Xb w w':=by
 have i:Xb w (w.alloc (Al #[I J p.op,l,r,I J p.M,Y (BS p.str),Y (BS p.esc),Y ⟨#[]⟩] 102)):=uy.alloc ux _
 have o:=qd (vf7 (w.alloc (Al #[I J p.op,l,r,I J p.M,Y (BS p.str),Y (BS p.esc),Y ⟨#[]⟩] 102)) (Z w.1) p l r
  ⟨G.alloc _,ur,ur,ur,ur,ur,ur,ur,E,K,H⟩ lt rt z u (λh=>(F h).h i) (λh L=>(D h L).h i))
 obtain⟨C,rfl⟩:=T;obtain⟨B,rfl⟩:=g;generalize ht:qK p lt rt=t;rw[ht]at o;unfold at0 at o;unfold at0 coV;go_enter func142,ntmps142
 go_wp2_with(refine be o λf d=>?_;have q:Z w.1<Z f.1:=(by have:=d.size;simp at this;omega);have S:Xc f (Z w.1) 0 (I J p.op):=((qi d).1 _ 0 ur).trans ur;have R:Xc f (Z w.1) 1 (Ag C):=((qi d).1 _ 1 ur).trans ur;have Q:Xc f (Z w.1) 2 (Ag B):=((qi d).1 _ 2 ur).trans ur;have P:Xc f (Z w.1) 3 (I J p.M):=((qi d).1 _ 3 ur).trans ur;have O:Xc f (Z w.1) 4 (Y (BS p.str)):=((qi d).1 _ 4 ur).trans ur;have N:Xc f (Z w.1) 5 (Y (BS p.esc)):=((qi d).1 _ 5 ur).trans ur;have M:Xc f (Z w.1) 6 (Y ⟨#[]⟩):=((qi d).1 _ 6 ur).trans ur;have X:Xf f (Z w.1):=(λj=>((qi d).2 _ j ur).trans ur);have U:=qd (qg i d))
 go_ret;refine⟨rfl,⟨ux,by simpa using q,by simpa using q,by simp[go_sem,S],by simp[go_sem,R],by simp[go_sem,Q],by simp[go_sem,P],by simp[go_sem,O],by simp[go_sem,N],by simp[go_sem,M]⟩, ?_⟩;exact U.setCell ur _
theorem qi0(e:jp op=uh)(d:unB op=uh)(l r:uk):qK (qr op) l r=[40]++l++[32]++jJ op++[32]++r++[41]:=by
 grind[jp,unB,qK,qr]
theorem CoAt.two{d:Ao}(i:uc<=Z d.1)(e:CellsC (Z d.1) (Z w'.1) w' (Z d.1) (qr op) vx vy (qK (qr op) (qu x) (qu y)))(f:Xb d w')(h:CoAt uc (Z d.1) d vx x)(g:CoAt uc (Z d.1) d vy y):
  CoAt uc (Z w'.1) w' (at0 (Z d.1)) (.bin (qr op) x y):=
 ⟨Z d.1,vx,vy,rfl,⟨i,e.hi,e.within,e.c0,e.c1,e.c2,e.c3,e.c4,e.c5,e.c6⟩,h.h f,g.h f⟩
theorem CoAt.ptr{E:Nat}{c:Co}(h:CoAt uc E w v c):∃b,v=Ag (G (D b 0 O)):=by
 grind[CoAt.head,at0]
theorem qgc(op:Int)(r:uc<=Z w.1)(q:LibOk w){d:Nat}(g:CoAt uc (Z w.1) w (Ag (G (D bx 0 O))) x)(f:CoAt uc (Z w.1) w (Ag (G (D d 0 O))) y)(l:A (qu x)<=1000000000)(j:A (qu y)<=1000000000):
  uo 142 #[Ai #[I J op,Ag (G (D bx 0 O)),Ag (G (D d 0 O)),I J 0,Y ⟨#[]⟩,Y ⟨#[]⟩,Y ⟨#[]⟩]] w λe w'=>∃b,e=Ak (Ag (G (D b 0 O)))/\CoAt uc (Z w'.1) w' (Ag (G (D b 0 O))) (.bin (qr op) x y)/\Xb w w':=by
 have h:=qap w q (qr op) (Ag (G (D bx 0 O))) (Ag (G (D d 0 O))) (qu x) (qu y) (show Rng 0 from⟨uu,uu⟩) (bt _) (bt _) l j ⟨_,rfl⟩ ⟨_,rfl⟩ (λ_=>g.K) (λ_ _=>f.K);refine Calls.mono (show uo 142 #[Ai #[I J op,Ag (G (D bx 0 O)),Ag (G (D d 0 O)),I J 0,Y ⟨#[]⟩,Y ⟨#[]⟩,Y ⟨#[]⟩]] w _ from h) ?_;rintro e w'⟨rfl,o,i⟩;exact⟨Z w.1,rfl,CoAt.two r o i g f,i⟩
theorem jr(op:Int)(F:uc<=Z w.1)(E:LibOk w)(r:CoAt uc (Z w.1) w vx x)(q:CoAt uc (Z w.1) w vy y)(C:A (qu x)<=1000000000)(B:A (qu y)<=1000000000):
  uo 138 #[I J op,vx,vy] w λe w'=>∃b,e=Ak (Ag (G (D b 0 O)))/\CoAt uc (Z w'.1) w' (Ag (G (D b 0 O))) (qq op x y)/\Xb w w':=by
 obtain⟨bx,rfl⟩:=r.ptr;obtain⟨H,rfl⟩:=q.ptr;obtain⟨l,i,M,P⟩:=r.K;obtain⟨j,g,Q,N⟩:=q.K;obtain rfl:l=bx:=by injection i with i;injection i with i;injection i with i;exact i.symm
 obtain rfl:j=H:=by injection g with g;injection g with g;injection g with g;exact g.symm
 have K:Hid (∀f,Xb w f->uo 142 #[Ai #[I J op,Ag (G (D l 0 O)),Ag (G (D j 0 O)),I J 0,Y ⟨#[]⟩,Y ⟨#[]⟩,Y ⟨#[]⟩]] f λe w'=>∃b,e=Ak (Ag (G (D b 0 O)))/\CoAt uc (Z w'.1) w' (Ag (G (D b 0 O))) (.bin (qr op) x y)/\Xb f w'):=
  qd (λf d=>qgc op (bu F d.size) (E.h d ux) (r.h d) (q.h d) C B)
 have L:Hid (∀f,Xb w f->uo 142 #[Ai #[I J op,Ag (G (D j 0 O)),Ag (G (D l 0 O)),I J 0,Y ⟨#[]⟩,Y ⟨#[]⟩,Y ⟨#[]⟩]] f λe w'=>∃b,e=Ak (Ag (G (D b 0 O)))/\CoAt uc (Z w'.1) w' (Ag (G (D b 0 O))) (.bin (qr op) y x)/\Xb f w'):=
  qd (λf d=>qgc op (bu F d.size) (E.h d ux) (q.h d) (r.h d) B C)
 have R:Op.bytesLess (BS (qu y)).toList (BS (qu x)).toList=Op.bytesLess (qu y) (qu x):=by rw[qP,qP]
 have o:Hid (∀n,Xb w (w.drewN n)):=qd (λn=>⟨rfl,rfl,rfl,ux,λ_ _=>rfl⟩);unfold qq;generalize Op.bytesLess (qu y) (qu x)=lt at *;clear r q C B E F i g
 cases he:yy op with
 | false=>
  rw[rh,ak uu];have z:Hid (∀w,uo 191 #[I J op] w λe w'=>e=Ak (Ah uh)/\w'=w):=qd (λw=>he ▸ pE op w);go_enter func138,ntmps138
  go_wp2
  go_quiet ((go_at_call 191;exact ox (z _)))
  go_wp2_with(refine(K _ (o _)).mono ?_;rintro e w2⟨b,rfl,u,d⟩)
  go_ret;exact⟨b,rfl,u,qg (o _) d⟩
 | true=>
  rw[mf];have z:Hid (∀w,uo 191 #[I J op] w λe w'=>e=Ak (Ah ui)/\w'=w):=qd (λw=>he ▸ pE op w)
  cases lt with
  | false=>
   rw[ak uu];go_enter func138,ntmps138
   go_wp2
   go_quiet ((go_at_call 191;exact ox (z _)))
   go_wp2_with(refine(K _ (o _)).mono ?_;rintro e w2⟨b,rfl,u,d⟩)
   go_ret;exact⟨b,rfl,u,qg (o _) d⟩
  | true=>
   rw[bs rfl];go_enter func138,ntmps138
   go_wp2
   go_quiet ((go_at_call 191;exact ox (z _)))
   go_wp2_with(refine(L _ (o _)).mono ?_;rintro e w2⟨b,rfl,u,d⟩)
   go_ret;exact⟨b,rfl,u,qg (o _) d⟩
def uC:Co->Nat
 | .leaf _=>1
 | .un _ x=>uC x
 | .bin p x y=>if p.op==6||p.op==7 then uC x+uC y else 1
theorem qve:∀c,1<=uC c:=by
 intro c
 induction c<;>grind[uC]
theorem ze(op:Int)(x y:Co):uC (qq op x y)=if op==6||op==7 then uC x+uC y else 1:=by
 grind[qq,uC,qr]
theorem vpb:∀c,uC (vj c)=uC c:=by
 intro c
 induction c<;>grind[vj,ze,uC]
theorem qN(op:Int)(e:jp op=uh)(d:unB op=uh)(x y:Co):A (qu (qq op x y))=A (qu x)+A (qu y)+4+A (jJ op):=by
 grind[qq,qK,qu,qi0]
def qvv(op:Int):Bool:=!jp op&&!unB op
theorem jV{p:CP}(h:qvv p.op=ui)(x y:Co):A (qu (.bin p x y))=A (qu x)+A (qu y)+4+A (jJ p.op):=by
 grind[qK,qu,qvv,jp,unB,CP]
def WfC:Co->Prop
 | .leaf p=>jp p.op=ui
 | .un p x=>unB p.op=ui/\WfC x
 | .bin p x y=>qvv p.op=ui/\WfC x/\WfC y
theorem vX(h:qvv op=ui)(e:WfC x)(d:WfC y):WfC (qq op x y):=by
 grind[qq,WfC,qr]
theorem vge:∀c,WfC c->WfC (vj c):=by
 intro c
 induction c with
 | leaf p=>intro h;unfold vj;split;exact rfl;split;exact rfl;exact⟨rfl,h⟩
 | un p x ih=>intro h;unfold vj;split;exact h.2;exact⟨rfl,h⟩
 | bin p x y ihx ihy=>
  intro h;unfold vj
  split
  .exact vX rfl (ihx h.2.1) (ihy h.2.2)
  split
  .exact vX rfl (ihx h.2.1) (ihy h.2.2)
  split
  .exact vX rfl h.2.2 h.2.1
  split
  exact vX rfl h.2.2 h.2.1;exact⟨rfl,h⟩
theorem qcu(c:Co):A (qu (.un (qr 5) c))=A (qu c)+6:=by
 simp[qK,qr,qu]
theorem xh:∀c,WfC c->A (qu (vj c))+1<=A (qu c)+7 * uC c:=by
 intro c
 induction c with
 | leaf p=>
  intro _;unfold vj
  split
  .rename_i h;have:A (qu (.leaf p))=4:=by show (A (qK p [] []))=4;rw[qK,eq_of_beq h];rfl
   show 5+1<=_+7 * 1;omega
  split
  .show 4+1<=_+7 * 1;omega
  rw[qcu];show _<=_+7 * 1;omega
 | un p x ih =>grind[qve,vj,qu,qK,qcu]
 | bin p x y ihx ihy=>
  intro e;have g:=ihx e.2.1;have f:=ihy e.2.2;have d:=jV e.1 x y;unfold vj
  by_cases h6:(p.op==6)=ui
  .rw[bs h6,qN 7 rfl rfl,d]
   have:uC (.bin p x y)=uC x+uC y:=by show(if(p.op==6||p.op==7)=ui then _ else _)=_;rw[h6];rfl
   have:A (jJ p.op)=3:=by rw[eq_of_beq h6];rfl
   show _+_+4+2+1<=_;omega
  rw[ak h6]
  by_cases h7:(p.op==7)=ui
  .rw[bs h7,qN 6 rfl rfl,d]
   have:uC (.bin p x y)=uC x+uC y:=by show(if(p.op==6||p.op==7)=ui then _ else _)=_;rw[h7,Bool.or_true];rfl
   have:A (jJ p.op)=2:=by rw[eq_of_beq h7];rfl
   show _+_+4+3+1<=_;omega
  rw[ak h7]
  have i:uC (.bin p x y)=1:=by
   grind[uC]
  by_cases S7:(p.op==10)=ui
  .rw[bs S7,qN 11 rfl rfl,d]
   show _+_+4+2+1<=_;omega
  rw[ak S7]
  by_cases V8:(p.op==11)=ui
  .rw[bs V8,qN 10 rfl rfl,d]
   show _+_+4+1+1<=_;omega
  rw[ak V8,qcu];omega
def qax(c:Co):Prop:=∀(uc:Nat) (w:Ao) (v:Ap),uc<=Z w.1->LibOk w->CoAt uc (Z w.1) w v c ->
 Calls prog 140 #[v] w λe w'=>∃b,e=Ak (Ag (G (D b 0 O)))/\CoAt uc (Z w'.1) w' (Ag (G (D b 0 O))) (vj c)/\Below (Z w.1) w w'
theorem xU(p:CP)(hp:jp p.op=ui)(f:Rng p.M)(o:A p.str<=1000000000)(l:A p.esc<=1000000000)(j:uc<=Z w.1)(i:LibOk w):
  uo 142 #[Ai #[I J p.op,Ag O,Ag O,I J p.M,Y (BS p.str),Y (BS p.esc),Y ⟨#[]⟩]] w λe w'=>∃b,e=Ak (Ag (G (D b 0 O)))/\CoAt uc (Z w'.1) w' (Ag (G (D b 0 O))) (.leaf p)/\Xb w w':=by
 refine Calls.mono (show uo 142 #[Ai #[I J p.op,Ag O,Ag O,I J p.M,Y (BS p.str),Y (BS p.esc),Y ⟨#[]⟩]] w _ from qap w i p (Ag O) (Ag O) [] [] f o l (bt _) (bt _) ⟨_,rfl⟩ ⟨_,rfl⟩ (λh=>by rw[hp]at h;cases h) (λh=>by rw[hp]at h;cases h)) ?_;rintro e w'⟨rfl,d,g⟩;exact⟨Z w.1,rfl,⟨Z w.1,rfl,⟨j,d.hi,d.within,d.c0,d.c1,d.c2,d.c3,d.c4,d.c5,d.c6⟩⟩,g⟩
theorem qaq(p:CP)(hp:unB p.op=ui)(j:Rng p.M)(r:A p.str<=1000000000)(q:A p.esc<=1000000000)(o:uc<=Z w.1)(l:LibOk w)(f:CoAt uc (Z w.1) w (Ag (G (D bx 0 O))) x)(i:A (qu x)<=1000000000):
  uo 142 #[Ai #[I J p.op,Ag (G (D bx 0 O)),Ag O,I J p.M,Y (BS p.str),Y (BS p.esc),Y ⟨#[]⟩]] w λe w'=>∃b,e=Ak (Ag (G (D b 0 O)))/\CoAt uc (Z w'.1) w' (Ag (G (D b 0 O))) (.un p x)/\Xb w w':=by
 refine Calls.mono (show uo 142 #[Ai #[I J p.op,Ag (G (D bx 0 O)),Ag O,I J p.M,Y (BS p.str),Y (BS p.esc),Y ⟨#[]⟩]] w _ from qap w l p (Ag (G (D bx 0 O))) (Ag O) (qu x) [] j r q i (bt _) ⟨_,rfl⟩ ⟨_,rfl⟩ (λ_=>f.K) (λ_ h=>by rw[hp]at h;cases h)) ?_;rintro e w'⟨rfl,d,g⟩;exact⟨Z w.1,rfl,⟨Z w.1,_,rfl,⟨o,d.hi,d.within,d.c0,d.c1,d.c2,d.c3,d.c4,d.c5,d.c6⟩,f.h g⟩,g⟩
theorem vhu:∀{d:List CRes} {fit:Bool},dem want pl d fit=O->fit=ui:=by
 intro d
 induction d with
 | nil=>grind[dem]
 | cons r t ih=>
  intro fit h
  cases r with
  | err q=>cases h
  | ok c =>grind[dem]
theorem vht:∀{d:List CRes} {fit:Bool},dem want pl d fit=O->∀r∈d,∃c,r=.ok c/\(c=want\/c=0):=by
 intro d
 induction d with
 | nil=>grind
 | cons r t ih=>
  intro fit h
  cases r with
  | err q=>cases h
  | ok c =>grind[dem,vhu]
theorem ve{d:Int}{e:List CRes}(h:xq want pl c e=.ok d):∀r∈e,∃c,r=.ok c/\(c=want\/c=0):=by
 grind[xq,vht]
theorem qay{a b:CRes}(h:xp pl a b=.ok c):(∃c,a=.ok c)/\∃c,b=.ok c:=by
 cases a with
 | err q=>cases h
 | ok x=>
  cases b with
  | err q=>cases h
  | ok y=>grind
def ArA:Ast->Prop
 | .leaf p=>p.op=0\/p.op=1
 | .un p x=>(p.op=14\/p.op=15)/\ArA x
 | .bin p x y=>16<=p.op/\p.op<=19/\ArA x/\ArA y
 | .tri _ _ _ _=>False
theorem qed:∀t c,ShA t->qC t=.ok c->(c=1\/c=0)->ArA t:=by
 intro t
 induction t with
 | leaf p =>grind[qR,qC,ArA,ShA]
 | un p x ih=>
  intro c g f h;have f:qR p.op p.U [qC x]=.ok c:=f;obtain e|e|e|e|e|e:=g.1
  .grind[qR,xq]
  .rw[e]at f
   obtain⟨d,l,j⟩:=ve (show xq 1 p.U 1 [qC x]=.ok c from f) (qC x) ur;exact⟨Am e,ih d g.2.2.2 l j⟩
  .rw[e]at f
   obtain⟨d,l,j⟩:=ve (show xq 1 p.U 1 [qC x]=.ok c from f) (qC x) ur;exact⟨An e,ih d g.2.2.2 l j⟩
  all_goals(rw[e]at f;injection f with f;omega)
 | bin p x y ihx ihy=>
  intro c g f h;have f:qR p.op p.U [qC x,qC y]=.ok c:=f
  have i:∀w,xq w p.U 3 [qC x,qC y]=.ok c->False:=λw f=>by
   unfold xq at f
   split at f
   grind
   cases f
  have q:xp p.U (qC x) (qC y)=.ok c->False:=λf=>by
   obtain⟨⟨a,B⟩,b,A⟩:=qay f;rw[B,A]at f;have f:(if(a != b&&a != 0&&b != 0)=ui then CRes.err p.U else CRes.ok 3)=.ok c:=f
   split at f
   cases f
   grind
  have o:xq 1 p.U 1 [qC x,qC y]=.ok c->ArA x/\ArA y:=λf=>by
   obtain⟨d,l,j⟩:=ve f (qC x) ur;obtain⟨e,u,r⟩:=ve f (qC y) ur;exact⟨ihx d g.2.1 l j,ihy e g.2.2 u r⟩
  rcases(show p.op=6\/p.op=7\/p.op=8\/p.op=9\/p.op=10\/p.op=11\/p.op=12\/p.op=13\/p.op=16\/p.op=17\/p.op=18\/p.op=19 by have:=g.1;omega) with e|e|e|e|e|e|e|e|e|e|e|e
  .rw[e]at f;exact absurd f (i 3)
  .rw[e]at f;exact absurd f (i 3)
  .rw[e]at f;exact absurd f q
  .rw[e]at f;exact absurd f q
  .rw[e]at f;exact absurd f (i 1)
  .rw[e]at f;exact absurd f (i 1)
  .rw[e]at f;exact absurd f (i 1)
  .rw[e]at f;exact absurd f (i 1)
  all_goals(rw[e]at f;exact⟨uq,uq,(o f).1,(o f).2⟩)
 | tri p x y z ihx ihy ihz =>grind[qR,qC,xq,ShA]
theorem qb3(p:CP)(d:A p.str<=200)(f:Rng p.M)(e:jp p.op=ui):A (qu (.leaf p))<=402:=by
 show (A (qK p [] []))<=402;have hq:=qb8 p.str
 grind[Lib.itoa_length_le,Rng,qL,jp,qK]
theorem qdv:A (qu (gO 0))<=21:=Lib.itoa_length_le 0 uu uu
theorem qzo:∀t,ArA t->qi6 t->qi9 t->A (qu (qj t))<=500 * ndA t:=by
 intro t
 induction t with
 | leaf p=>
  intro g f d;have:=qb3 (yt p) f.1 d (by grind[jp,yt,ArA]);show (A (qu (.leaf (yt p))))<=500 * 1;omega
 | un p x ih=>
  intro g f d;have h:=ih g.2 f.2 d.2;have i:A (qu (gO 0))<=21:=qdv;have j:ndA (.un p x)=1+A p.i+ndA x:=rfl;obtain e|e:=g.1
  grind[yt,jp,qj,qq,qN,jJ,unB]
  grind[qb3,yt,jp,gO,qdv,ndA,qj,qN,qg9,unB]
 | bin p x y ihx ihy =>grind[ndA,qg9,qj,qN,jp,unB,ArA,qi6,qi9]
 | tri p x y z ihx ihy ihz=>grind[ArA]
theorem qrs{x:uk}(h:x∈Lib.compact zs):x∈zs:=by
 unfold Lib.compact Lib.compactUpTo at h
 grind
theorem qek(zs:List uk):A (Lib.compact zs)<=A zs:=by
 unfold Lib.compact Lib.compactUpTo
 grind
theorem qw6(h:zs≠[]):Lib.compact zs≠[]:=by
 cases zs with
 | nil=>exact absurd rfl h
 | cons a r=>
  intro e;unfold Lib.compact Lib.compactUpTo at e;rw[List.map_eq_nil_iff]at e;have:0∈(List.range (A (a::r))).filter (Lib.keeps (a::r).toArray):=ro.2 ⟨lj.2 ur,Lib.keeps_lt_one _ 0 uu⟩;rw[e]at this;cases this
theorem pD{x:uk}(h:x∈vw ts):x∈ts:=by
 exact(List.mem_mergeSort).1 (qrs h)
theorem qbm(ts:List uk):A (vw ts)<=A ts:=by
 grind[vw,qek,List.length_mergeSort]
theorem qdz(h:ts≠[]):vw ts≠[]:=by
 grind[vw,qw6,List.length_mergeSort]
theorem xV(t:uk)(h:A t<=200):A (qu (vl t))<=402:=by
 show (A (qL t))<=402
 grind[qb8]
theorem qfj(x:Co):∀(r:List uk) (f:Co),(∀t∈r,A t<=200)->A (qu (zC x f r))<=A (qu f)+A r * (A (qu x)+420):=by
 intro r
 induction r with
 | nil=>intro f _;show (A (qu f))<=_;omega
 | cons t r ih=>
  intro f h;have e:=ih (qq 7 f (qq 8 x (vl t))) (λu d=>h u (fe _ d));rw[qN 7 rfl rfl,qN 8 rfl rfl]at e;have g:=xV t (h t eu);have j:A (jJ 7)=2:=rfl;have i:A (jJ 8)=1:=rfl;show (A (qu (zC x (qq 7 f (qq 8 x (vl t))) r)))<=_;rw[fj,Nat.succ_mul];omega
theorem vs7(x:Co):∀(r:List uk) (f:Co),uC (zC x f r)=uC f+A r:=by
 intro r
 induction r<;>grind[zC,ze]
theorem quj(d:WfC x):∀(r:List uk) (f:Co),WfC f->WfC (zC x f r):=by
 intro r
 induction r with
 | nil=>intro f h;exact h
 | cons t r ih=>intro f h;exact ih _ (vX rfl h (vX rfl d rfl))
theorem xP{x:Ast}(d:ShA x)(h:opA x=0):∃q,x=.leaf q/\q.op=0:=by
 cases x<;>grind[opA,ShA]
theorem vp7(a b:Nat)(k:Nat)(d:k<=3000):3000 * (a * a)+3000 * (b * b)+k<=3000 * ((1+a+b) * (1+a+b)):=by
 grind
theorem qpc(a m:Nat)(k:Nat)(d:k<=3000+6000 * a):3000 * (a * a)+k<=3000 * ((1+m+a) * (1+m+a)):=by
 grind
structure Gd(t:Ast):Prop where
 len:A (qu (qj t))<=3000 * (ndA t * ndA t)
 un:uC (qj t)<=ndA t
 wf:WfC (qj t)
theorem vnt:∀t,1<=ndA t:=by
 grind[ndA.eq_def]
def GdA:Ast->Prop
 | .leaf p=>Gd (.leaf p)
 | .un p x=>Gd (.un p x)/\GdA x
 | .bin p x y=>Gd (.bin p x y)/\GdA x/\GdA y
 | .tri p x y z=>Gd (.tri p x y z)/\GdA x/\GdA y/\GdA z
theorem GdA.gd(h:GdA t):Gd t:=by
 cases t<;>grind[GdA]
theorem vqp(p:Pay)(g:ShA (.leaf p))(f:qi6 (.leaf p))(e:qi9 (.leaf p)):Gd (.leaf p):=by
 have d:jp (yt p).op=ui:=by
  grind[jp,yt,ShA]
 refine⟨?_,ux,d⟩;have:=qb3 (yt p) f.1 e d;show (A (qu (.leaf (yt p))))<=3000 * (1 * 1);omega
theorem qrf(D:qvv op=ui){x y:Ast}(e:Gd x)(d:Gd y)(u v:Co)(o:(u=qj x/\v=qj y)\/(u=qj y/\v=qj x))(i:qj (.bin p x y)=qq op u v):Gd (.bin p x y):=by
 have f:jp op=uh/\unB op=uh:=by
  grind[qvv]
 have q:A (qu u)+A (qu v)=A (qu (qj x))+A (qu (qj y)):=by grind
 have l:WfC u/\WfC v:=by
  grind[Gd]
 have g:=qg9 op;have C:=e.len;have B:=d.len;have z:=e.un;have r:=d.un;have j:ndA (.bin p x y)=1+ndA x+ndA y:=rfl;refine⟨?_, ?_, ?_⟩;rw[i,qN op f.1 f.2,j];have:=vp7 (ndA x) (ndA y) 7 uu;omega
 grind[ze]
 grind[vX]
theorem vik:∀t,ShA t->qi6 t->qi9 t->BqA t->(∃c,qC t=.ok c)->GdA t:=by
 intro t
 induction t with
 | leaf p=>intro i o B _ _;exact vqp p i o B
 | un p x ih=>
  intro i o B hq f;obtain⟨c,f⟩:=f;have f:qR p.op p.U [qC x]=.ok c:=f
  have mU:∃d,qC x=.ok d:=by
   obtain e|e|e|e|e|e:=i.1
   .rw[e]at f
    obtain⟨d,D,_⟩:=ve (show xq 3 p.U 3 [qC x]=.ok c from f) (qC x) ur;exact⟨d,D⟩
   .rw[e]at f
    obtain⟨d,D,_⟩:=ve (show xq 1 p.U 1 [qC x]=.ok c from f) (qC x) ur;exact⟨d,D⟩
   .rw[e]at f
    obtain⟨d,D,_⟩:=ve (show xq 1 p.U 1 [qC x]=.ok c from f) (qC x) ur;exact⟨d,D⟩
   all_goals
    obtain⟨q,rfl,M⟩:=xP i.2.2.2 (i.2.2.1 uq);exact⟨0,by show qR q.op q.U []=.ok 0;rw[M];rfl⟩
  have E:=ih i.2.2.2 o.2 B.2 hq.2 mU;refine⟨?_,E⟩;have j:=E.gd;have D:=j.len;have h2:=j.un;have l:ndA (.un p x)=1+A p.i+ndA x:=rfl;have J:=qdv;obtain e|e|e|e|e|e:=i.1;have g:qj (.un p x)=vj (qj x):=by rw[qj,e];rfl
  have I:=xh (qj x) j.wf;refine⟨?_,by rw[g,vpb,l];omega,by rw[g];exact vge _ j.wf⟩;rw[g,l];have:=qpc (ndA x) (A p.i) (7 * ndA x) uq;omega
  .have g:qj (.un p x)=qq 16 (gO 0) (qj x):=by rw[qj,e];rfl
   have QA:A (jJ 16)=1:=rfl;refine⟨?_,by rw[g,ze,l];show 1<=_;omega,by rw[g];exact vX rfl rfl j.wf⟩;rw[g,qN 16 rfl rfl,l];have:=qpc (ndA x) (A p.i) 30 uq;omega
  .have g:qj (.un p x)=qq 17 (gO 0) (qj x):=by rw[qj,e];rfl
   have PW:A (jJ 17)=1:=rfl;refine⟨?_,by rw[g,ze,l];show 1<=_;omega,by rw[g];exact vX rfl rfl j.wf⟩;rw[g,qN 17 rfl rfl,l];have:=qpc (ndA x) (A p.i) 30 uq;omega
  .have g:qj (.un p x)=vO (qj x) p.i:=by rw[qj,e];rfl
   have hne:=qdz (i.2.1 e);have T:=qbm p.i;have L:∀u∈vw p.i,A u<=200:=λu H=>hq.1.2 u (pD H)
   obtain⟨q,rfl,M⟩:=xP i.2.2.2 (i.2.2.1 uq);have hlx:A (qu (qj (.leaf q)))<=402:=qb3 (yt q) o.2.1 B.2 (by unfold jp;simp[yt,M])
   cases hsort:vw p.i with
   | nil=>grind
   | cons u r=>
    rw[hsort]at L T;have N:qj (.un p (.leaf q))=zC (qj (.leaf q)) (qq 8 (qj (.leaf q)) (vl u)) r:=by rw[g,vO,hsort]
    have FC:=qfj (qj (.leaf q)) r (qq 8 (qj (.leaf q)) (vl u)) (λy F=>L y (fe _ F));rw[qN 8 rfl rfl]at FC;have U0:=xV u (L u eu);have e8:A (jJ 8)=1:=rfl;rw[fj]at T;refine⟨?_, ?_, ?_⟩;rw[N,l];have S:A r * (A (qu (qj (.leaf q)))+420)<=A r * 822:=ow _ uq;have K:(1+A p.i+ndA (.leaf q)) * 1<=(1+A p.i+ndA (.leaf q)) * (1+A p.i+ndA (.leaf q)):=ow _ uq;omega
    .rw[N,vs7,ze,l]
     show 1+_<=_;omega
    rw[N];exact quj j.wf _ _ (vX rfl j.wf rfl)
  .have g:qj (.un p x)=.un (yt p) (qj x):=by rw[qj,e];rfl
   have I:A (qu (.un (yt p) (qj x)))<=A (qu (qj x))+830:=by
    show (A (qK (yt p) (qu (qj x)) []))<=_;have a:=qb8 p.str;have b:=qb8 p.esc;have c1:=o.1.1;have c2:=hq.1.1;have d:A (qks p.esc)<=8+A (qL p.esc):=by unfold qks;split<;>simp<;>omega
    rw[qK];simp only[yt,e];simp;omega
   refine⟨?_,by rw[g,l];show uC (qj x)<=_;omega,by rw[g];exact⟨by unfold unB;simp[yt,e],j.wf⟩⟩;rw[g,l];have:=qpc (ndA x) (A p.i) 830 uq;omega
  have g:qj (.un p x)=.un (yt p) (qj x):=by rw[qj,e];rfl
  have I:A (qu (.un (yt p) (qj x)))=A (qu (qj x))+10:=by
   show (A (qK (yt p) (qu (qj x)) []))=_;rw[qK];simp only[yt,e];simp
  refine⟨?_,by rw[g,l];show uC (qj x)<=_;omega,by rw[g];exact⟨by unfold unB;simp[yt,e],j.wf⟩⟩;rw[g,l];have:=qpc (ndA x) (A p.i) 10 uq;omega
 | bin p x y ihx ihy=>
  intro i o B hq f;obtain⟨c,f⟩:=f;have f:qR p.op p.U [qC x,qC y]=.ok c:=f
  have U:(∃d,qC x=.ok d)/\∃d,qC y=.ok d:=by
   have C:∀w k,xq w p.U k [qC x,qC y]=.ok c->(∃d,qC x=.ok d)/\∃d,qC y=.ok d:=λw k h=>by
    obtain⟨d,D,_⟩:=ve h (qC x) ur;obtain⟨e,h3,_⟩:=ve h (qC y) ur;exact⟨⟨d,D⟩,⟨e,h3⟩⟩
   rcases(show p.op=6\/p.op=7\/p.op=8\/p.op=9\/p.op=10\/p.op=11\/p.op=12\/p.op=13\/p.op=16\/p.op=17\/p.op=18\/p.op=19 by have:=i.1;omega) with e|e|e|e|e|e|e|e|e|e|e|e<;>rw[e]at f
   exact C 3 3 f;exact C 3 3 f
   .exact qay (show xp p.U (qC x) (qC y)=.ok c from f)
   .exact qay (show xp p.U (qC x) (qC y)=.ok c from f)
   exact C 1 3 f;exact C 1 3 f;exact C 1 3 f;exact C 1 3 f;exact C 1 1 f;exact C 1 1 f;exact C 1 1 f;exact C 1 1 f
  have E:=ihx i.2.1 o.2.1 B.2.1 hq.2.1 U.1;have F:=ihy i.2.2 o.2.2 B.2.2 hq.2.2 U.2;refine⟨?_,E,F⟩;have j:=E.gd;have G:=F.gd
  by_cases I2:p.op=12
  .exact qrf (op:=10) rfl j G (qj y) (qj x) (An ⟨rfl,rfl⟩) (by rw[qj,I2];rfl)
  by_cases i6:p.op=13
  .exact qrf (op:=11) rfl j G (qj y) (qj x) (An ⟨rfl,rfl⟩) (by rw[qj,i6];rfl)
  by_cases h9:p.op=9
  have g:qj (.bin p x y)=vj (qq 8 (qj x) (qj y)):=by rw[qj,h9];rfl
  have R:WfC (qq 8 (qj x) (qj y)):=vX rfl j.wf G.wf;have I:=xh _ R;have H:uC (qq 8 (qj x) (qj y))=1:=by rw[ze];rfl
  rw[H,qN 8 rfl rfl]at I;have e8:A (jJ 8)=1:=rfl;have D:=j.len;have h2:=G.len;have l:ndA (.bin p x y)=1+ndA x+ndA y:=rfl;refine⟨?_,by rw[g,vpb,H,l];omega,by rw[g];exact vge _ R⟩;rw[g,l];have:=vp7 (ndA x) (ndA y) 20 uu;omega;refine qrf (op:=p.op) ?_ j G (qj x) (qj y) (Am ⟨rfl,rfl⟩) (by rw[qj,ak (by simpa using I2),ak (by simpa using i6),ak (by simpa using h9)]);have:=i.1;unfold qvv jp unB;simp only[dn,Bool.not_eq_true',ir,aw];omega
 | tri p x y z ihx ihy ihz=>
  intro i o B hq f;obtain⟨c,f⟩:=f;have f:qR p.op p.U [qC x,qC y,qC z]=.ok c:=f;rw[i.1]at f;have f:xq 1 p.U 3 [qC x,qC y,qC z]=.ok c:=f;obtain⟨d1,Q,Z⟩:=ve f (qC x) ur;obtain⟨d2,P,Y⟩:=ve f (qC y) ur;obtain⟨d3,O,X⟩:=ve f (qC z) ur;have E:=ihx i.2.1 o.2.1 B.2.1 hq.2.1 ⟨_,Q⟩;have F:=ihy i.2.2.1 o.2.2.1 B.2.2.1 hq.2.2.1 ⟨_,P⟩;have J:=ihz i.2.2.2 o.2.2.2 B.2.2.2 hq.2.2.2 ⟨_,O⟩;refine⟨?_,E,F,J⟩;have ax:=qzo x (qed x d1 i.2.1 Q Z) o.2.1 B.2.1;have ay:=qzo y (qed y d2 i.2.2.1 P Y) o.2.2.1 B.2.2.1;have az:=qzo z (qed z d3 i.2.2.2 O X) o.2.2.2 B.2.2.2;have j:=E.gd.wf;have G:=F.gd.wf;have gz:=J.gd.wf;have g:qj (.tri p x y z)=qq 6 (qq 11 (qj y) (qj x)) (qq 11 (qj x) (qj z)):=rfl;have l:ndA (.tri p x y z)=1+ndA x+ndA y+ndA z:=rfl;have px:=vnt x;refine⟨?_,by rw[g,ze,ze,ze,l];show 1+1<=_;omega,by rw[g];exact vX rfl (vX rfl G j) (vX rfl j gz)⟩;rw[g,qN 6 rfl rfl,qN 11 rfl rfl,qN 11 rfl rfl,l];have e6:A (jJ 6)=3:=rfl;have LE:A (jJ 11)=2:=rfl;have K:(1+ndA x+ndA y+ndA z) * 1<=(1+ndA x+ndA y+ndA z) * (1+ndA x+ndA y+ndA z):=ow _ uq;omega
theorem ky{s:uj}(h:qW s=.ok t):GdA t/\ndA t<=200/\ShA t/\qi9 t/\qi6 t/\BqA t:=by
 have d:=xg h;have e:=qcd vnv h;have g:=qcd vng h;have hq:=qcd vwf h;refine⟨vik t d.1 g e hq ?_,d.2,d.1,e,g,hq⟩;unfold qW at h
 split at h
 split at h
 cases h;unfold qr3 at h
 split at h
 split at h
 rename_i f;cases h
 cases hc:qC t with
 | err q=>rw[hc]at f;cases f
 | ok c=>exact⟨c,rfl⟩
 cases h;cases h;cases h
def vU(s:Ps):Nat->List Tm×Ps
 | 0=>([],s)
 | k+1=>((vU s k).1++[((vU s k).2.term k).1],((vU s k).2.term k).2)
def jh(m:Int)(s:Ps):Nat->List Nat×Ps
 | 0=>([],s)
 | k+1=>((jh m s k).1++[((jh m s k).2.upTo m).1],((jh m s k).2.upTo m).2)
theorem gC(s:Ps)(k:Nat):A (vU s k).1=k:=by
 induction k<;>grind[vU]
theorem qbd(m:Int)(s:Ps)(k:Nat):A (jh m s k).1=k:=by
 induction k<;>grind[jh]
def qdh(code:List UInt8):Nat×Ps:=Ps.upTo ⟨code,uh⟩ 80
def qdi(code:List UInt8):Nat×Ps:=(qdh code).2.upTo 8
def qxr(code:List UInt8):List Tm×Ps:=vU (qdi code).2 (qdh code).1
def qnp(code:List UInt8):List Nat×Ps:=jh (((qdh code).1:Int) - 1) (qxr code).2 (qdi code).1
def kr(code:List UInt8):List Tm×List Nat×Bool:=((qxr code).1,(qnp code).1,!(qnp code).2.bad&&(A (qnp code).2.rest==0))
def xJ(ts:List Tm):List Ap:=ts.flatMap yH
def zp(l:List Nat):List Ap:=l.map λn:Nat=>I J (n:Int)
theorem qez:(prog.info? 187).map (λi=>(i.zero,i.size,i.bytes))=G (G (Ai #[I J 0,I J 0,I J 0,I J 0,Y ⟨#[]⟩,Y ⟨#[]⟩]),6,64):=uw
theorem kA:(prog.info? 3).map (λi=>(i.zero,i.size,i.bytes))=G (G (I J 0),1,8):=uw
def TsAt(w:Ao)(base:Nat)(v:Ap)(ts:List Tm):Prop:=ue w base 187 6 v (A ts) (xJ ts)
def IsAt(w:Ao)(base:Nat)(v:Ap)(l:List Nat):Prop:=ue w base 3 1 v (A l) (zp l)
theorem TsAt.nil(w:Ao)(base:Nat):TsAt w base (C O 0 0) []:=⟨rfl,Am ⟨rfl,rfl⟩⟩
theorem IsAt.nil(w:Ao)(base:Nat):IsAt w base (C O 0 0) []:=⟨rfl,Am ⟨rfl,rfl⟩⟩
theorem qm{base e size:Nat}{xs:List Ap}(h:ue w base e size v n xs)(f:∀g,ug v=G g->w'.1[g]?=w.1[g]?):ue w' base e size v n xs:=by
 refine⟨h.1, ?_⟩;obtain d|⟨g,cap,cur,rfl,i,j,rest⟩:=h.2;exact Am d;exact An ⟨g,cap,cur,rfl,i,(f g rfl).trans j,rest⟩
theorem qpi{ts:List Tm}{i:Nat}{t:Tm}(h:ts[i]?=G t){j:Nat}{u:Ap}(d:(yH t)[j]?=G u):(xJ ts)[i * 6+j]?=G u:=by
 induction ts generalizing i with
 | nil=>simp at h
 | cons t' ts ih=>
  rw[xJ,dy,<-xJ]
  cases i with
  | zero =>grind
  | succ i =>grind[yH]
theorem qkh(h:(s.take n).2.bad=uh):s.bad=uh/\n<=A s.rest:=by
 grind[Ps.take,failS]
theorem qug(h:s.next.2.bad=uh):s.bad=uh:=(qkh (n:=1) h).1
theorem ka(h:(s.upTo m).2.bad=uh):s.bad=uh/\((s.upTo m).1:Int)<=m:=by
 grind[Ps.upTo,failS,qug]
theorem qx8(h:s.number.2.bad=uh):s.bad=uh:=(qkh (n:=8) h).1
theorem qkl(h:(s.K m).2.bad=uh):s.bad=uh/\(A (s.K m).1:Int)<=m:=by
 have d:=qkh (s:=(s.upTo m).2) (n:=(s.upTo m).1) h;have e:=ka d.1
 grind[Ps.K,Ps.take_length]
theorem vjp(m:Int)(k:Nat)(x:UInt8):Rng (vv5 m k x):=by
 grind[Rng,IntKind.wrap_i64,vv5,bits]
theorem vjo(l:uk)(k:Nat):Rng (vcq l k):=by
 cases k<;>grind[vjp,Rng,vcq]
structure FitsT(pl:Nat)(t:Tm):Prop where
 op:t.op<=23
 M:Rng t.M
 str:A t.str<=200
 esc:A t.esc<=1
 sides:5<=t.op->t.left<pl/\t.right<pl
theorem va2{pl op:Nat}(h:(s.body pl op).2.bad=uh):s.bad=uh/\FitsT pl (s.body pl op).1:=by
 have d:Rng 0:=⟨uu,uu⟩;unfold Ps.body at h |-
 by_cases h1:op=3\/op=4
 .grind[FitsT,Tm.bare]
 rw[ak h1]at h |-
 by_cases h2:op=1
 .grind[vjo,qx8,FitsT,Ps.number]
 rw[ak h2]at h |-
 by_cases h3:op=22
 .rw[bs h3]at h |-
  dsimp only at h |-
  have a:=qkl (s:=((s.upTo ((pl:Int) - 1)).2.K 1).2) (m:=200) h;have b:=qkl (s:=(s.upTo ((pl:Int) - 1)).2) (m:=1) a.1;have c:=ka (s:=s) (m:=(pl:Int) - 1) b.1;refine⟨c.1,by show op<=23;omega,d,by grind,by grind,λ_=>?_⟩;exact⟨by dsimp only;omega,by show 0<pl;omega⟩
 rw[ak h3]at h |-
 by_cases h4:op=0\/op=2
 .rw[bs h4]at h |-
  have a:=qkl (s:=s) (m:=200) h;exact⟨a.1,by show op<=23;omega,d,by grind,bt _,λe=>by grind⟩
 rw[ak h4]at h |-
 by_cases e:jH op=ui
 .rw[bs e]at h |-
  have a:=ka (s:=(s.upTo ((pl:Int) - 1)).2) (m:=(pl:Int) - 1) h;have b:=ka (s:=s) (m:=(pl:Int) - 1) a.1;refine⟨b.1, ?_,d,bt _,bt _,λ_=>?_⟩
  grind[jH]
  grind
 rw[ak e]at h |-
 by_cases h6:op=5\/op=23
 .rw[bs h6]at h |-
  have a:=ka (s:=s) (m:=(pl:Int) - 1) h;refine⟨a.1,by show op<=23;omega,d,bt _,bt _,λ_=>?_⟩;exact⟨by dsimp only;omega,by show 0<pl;omega⟩
 rw[ak h6]at h;simp[failS]at h
theorem vfo{pl:Nat}(h:(s.term pl).2.bad=uh):s.bad=uh/\FitsT pl (s.term pl).1:=by
 have:=va2 h;exact⟨qug this.1,this.2⟩
theorem qt4(h:(vU s k).2.bad=uh):s.bad=uh/\∀i t,(vU s k).1[i]?=G t->FitsT i t:=by
 induction k<;>grind[vU,vfo,gC]
theorem qsl(h:(jh m s k).2.bad=uh):s.bad=uh/\∀r∈(jh m s k).1,(r:Int)<=m:=by
 induction k with
 | zero=>grind[jh]
 | succ k ih=>
  have a:=ka h;have b:=ih a.1;refine⟨b.1,λr d=>?_⟩;rw[jh,cr]at d;obtain d|d:=d;exact b.2 r d
  grind
structure Prg(ts:List Tm)(rs:List Nat):Prop where
 terms:A ts<=80
 roots:A rs<=8
 fits:∀i t,ts[i]?=G t->FitsT i t
 h:∀r∈rs,r<A ts
theorem qxq{code:uk}(h:(kr code).2.2=ui):Prg (kr code).1 (kr code).2.1:=by
 have f:(qnp code).2.bad=uh:=by
  grind[kr]
 have a:=qsl f;have b:=qt4 a.1;have c:=ka b.1;have d:=ka c.1;have g:A (kr code).1=(qdh code).1:=gC _ _;have e:A (kr code).2.1=(qdi code).1:=qbd _ _ _;refine⟨?_, ?_,b.2,λr e=>?_⟩
 grind[qdh]
 grind[qdi]
 have:=a.2 r e;omega
end Go.Proofs.YtmepkbgodcffoaaGreatDoor
