/- strconv.ErrRange lies -/
import Derived.Test.YtdmmmgodfceilaaGreatDoorRows
import Derived.LaidLaws
import Derived.Lib.LaidU8
import Derived.MakeChecks
import Derived.Test.YtdmmmgodfceilaaGreatDoorM14
import Derived.Lib.AppendIntMem
import Derived.Lib.ItoaNum
import Derived.Lib.SlicesCompact
import Derived.Test.YtdmmmgodfceilaaGreatDoorShelf2
import Derived.Lib.ItoaLen
import Derived.Deep.AppendLies
import Derived.RegionTactic
import Derived.RangeFuncBox
import Derived.RangeFuncLeaves
import Derived.Shelf.Abstract
import Derived.OwnWalkIn
import Derived.TacticsInMore
import Derived.LoopNIn
import Derived.LoopIn
import Derived.Maps.AppendAt
import Derived.Test.YtdmmmgodfceilaaGreatDoorM06
set_option maxHeartbeats 32000000
set_option maxRecDepth 100000
namespace Go.Proofs.YtdmmmgodfceilaaGreatDoor
open Go.RowKit Go.Proofs.Tryz
open Go renaming Value->Ap,World->Ao
open Go.Ending renaming returned->Ak
open Go.IntKind renaming i64->J
open Go.Obj renaming cells->Al
open Go.Value renaming agg->Ai,bool->Ah,int->I,pointer->Ag,slice->C,string->Y
open Option renaming none->O,some->G
open Or renaming inl->Am,inr->An
variable{s:tq}{c op pl want:Int}{ts zs:List tu}{ps:List Pr}{l t x:tu}{xs:List Ap}{B E E' b base bx k n size:Nat}{e:Nat->Bool}{p:Pay}{v vx vy:Ap}{w w':Ao}
theorem qqi : prog.globalNamed "strconv.ErrRange" = G 3 := by kernel_rfl
theorem qio:(prog.globals[3]?).map (·.type)=G 274:=uh
theorem vnz {W:Ao} {l:List (String × DataW Unit)} (hm : ("strconv.ErrRange", Rows.laid_strconv_ErrRange) ∈ l) (h : laidMet prog l W) : ErrOk W := by
 obtain⟨g,t,cs,fuel,p,h1,h2,h3,h4⟩:=Lib.laidMet.reads h hm;obtain rfl:3=g:=Option.some.inj (qqi.symm.trans h1);obtain rfl:274=t:=Option.some.inj (qio.symm.trans h2);obtain⟨f1,u,v,I6,_,_⟩:=iface_of_trod underlying274 h4;unfold World.var? at h3;rw[qqi]at h3;simp only[Option.bind_some]at h3
 split at h3
 .rename_i c ty fz hh
  injection h3 with h3;subst h3;refine⟨(cf.1 hh).1,.iface u v, ?_,An ⟨u,v,rfl⟩⟩
  have h0:c[0]?=G (.iface u v):=by
   rw[<-Array.getElem?_toList,I6];rfl
  rw[World.cell?];simp[hh,h0]
 .cases h3
theorem ErrOk.set(h:ErrOk w){p:Addr}(hp:3<p.block)(u:Ap):ErrOk (w.setCell p u):=by
 obtain⟨f,ev,d,a⟩:=h;refine⟨by rw[size_setCell];exact f,ev, ?_,a⟩;rw[aw (w:=w) (w':=w.setCell p u) (au w p u _ (by show 3≠p.block;omega))];exact d
theorem vme(s:tq)(a:s.size<=200):(∃en pl,(lvl s 12).E (qh s st0)=.err en pl/\vq s=.err en pl)\/∃t L0,(lvl s 12).E (qh s st0)=.ok t L0/\((¬L0.tk.A=0/\vq s=.err 2 L0.M)\/(L0.tk.A=0/\((∃q,quu (qy t)=G q/\vq s=.err 4 q)\/(quu (qy t)=O/\vq s=.ok t)))):=by
 cases hE:(lvl s 12).E (qh s st0) with
 | err en pl=>exact Am ⟨en,pl,rfl,by rw[vq,bo a,hE]⟩
 | ok t L0=>
  refine An ⟨t,L0,rfl, ?_⟩;rw[show vq s=qmy t L0 by rw[vq,bo a,hE],qmy]
  by_cases hk:L0.tk.A=0
  refine An ⟨hk, ?_⟩;rw[bo hk]
  cases hc:quu (qy t) with
  | none=>exact An ⟨rfl,rfl⟩
  | some q=>exact Am ⟨q,rfl,rfl⟩
  exact Am ⟨hk,ak hk⟩
theorem qhg(s:tq)(w:Ao)(r:ErrOk w)(V4:s.size<=140737488355328):
  ua 49 #[Y s] w (qc1 w (vq s)):=by
 have JZ:∀(fn:Fn) (first cap:Array Ap) (w:Ao),(Instr.makeFunc fn first cap).run prog w=.ok (.func fn first cap) w:=λ_ _ _ _=>rfl
 by_cases hs:s.size<=200
 .skip
  have U3:s.size<=140737488355328:=V4;have hb:decide ((200:Int)<(s.size:Int))=false:=db ub;have RDY:=qd (qmc w s r hs);have y:=qd (qmb w s);have S:=qd (qma w s);have BZ:=gJ w s;have EI:=qd (qxh (w.1.size+3) s hs 12 0 rfl).E;have YI:=qd (qG s st0 (bt _));have GOOD:=qd (ve6 s hs);have ZD:Hid (∀w2 u,Kept (w.1.size+3) (begun w s) w2->ErrOk (w2.setCell ⟨w.1.size,0,O⟩ u)):=qd λw2 u D=>((qig w s r).T D (uu r.1)).set r.1 u
  clear r V4;rcases vme s hs with⟨en,pl,U,F⟩|⟨t,L0,U,⟨D,F⟩|⟨D,⟨q,VE,F⟩|⟨VE,F⟩⟩⟩
  all_goals
   rw[F];clear F
   try have CHK:=qd (qvq (w.1.size+3) t (GOOD _ _ _ U))
   have L4:=qd U;clear U
   try(have HK:=qd D;clear D)
   try(have HCH:=qd VE;clear VE)
   go_enter_defers func49,ntmps49
   go_wp2_with(first|(go_at_call 81;refine be (yA (w.1.size+3) s st0 (begun w s) U3 (bt _) RDY.at' RDY.lt RDY.err) ?_;rintro o⟨C7,P⟩;have B8:=P.size;rw[gJ]at B8;obtain⟨d,a⟩:=jZ P;rw[gJ]at d a;have a0:o.cell? ⟨w.1.size,0,O⟩=G (Ag O):=(d _ 0 ub ub).trans y.1;have a1:o.cell? ⟨w.1.size+1,0,O⟩=G (I J 0):=(d _ 0 ub ub).trans y.2.1;have a2:o.cell? ⟨w.1.size+2,0,O⟩=G (I J 0):=(d _ 0 ub ub).trans y.2.2.1;have b0:o.frozen? ⟨w.1.size,0,O⟩=false:=(a _ 0 ub ub).trans y.2.2.2.1;have b1:o.frozen? ⟨w.1.size+1,0,O⟩=false:=(a _ 0 ub ub).trans y.2.2.2.2.1;have b2:o.frozen? ⟨w.1.size+2,0,O⟩=false:=(a _ 0 ub ub).trans y.2.2.2.2.2;have T0:=qd (RDY.T P C7 YI);have V7:=qd P;clear C7 P d a)|(go_at_call 82;refine(EI o (qh s st0) T0 rfl).mono ?_;rintro e w2⟨W,h2⟩;rw[q9 L4]at h2;(first|subst h2|(obtain⟨v2,rfl,L,T,L8,Z9,U9⟩:=h2;obtain⟨j,rfl⟩:=L.ptr;have L:=qd L;have T:=qd T;have L8:=qd L8));have D4:=W.size;obtain⟨d,a⟩:=jZ W;have c0:w2.cell? ⟨w.1.size,0,O⟩=G (Ag O):=(d _ 0 ub ub).trans a0;have c1:w2.cell? ⟨w.1.size+1,0,O⟩=G (I J 0):=(d _ 0 ub ub).trans a1;have c2:w2.cell? ⟨w.1.size+2,0,O⟩=G (I J 0):=(d _ 0 ub ub).trans a2;have d0:w2.frozen? ⟨w.1.size,0,O⟩=false:=(a _ 0 ub ub).trans b0;have d1:w2.frozen? ⟨w.1.size+1,0,O⟩=false:=(a _ 0 ub ub).trans b1;have d2:w2.frozen? ⟨w.1.size+2,0,O⟩=false:=(a _ 0 ub ub).trans b2;have H:=qd (V7.trans W);clear W d a a0 a1 a2 b0 b1 b2;try simp only[ve])|(go_at_call 83;(first|(refine be (qhv (w.1.size+3) s L0 0 (w2.setCell ⟨w.1.size,0,O⟩ (Ag (G ⟨j,0,O⟩))) U3 L8.B (T.setOther (by show ¬w.1.size=w.1.size+3;omega) _) (by rw[size_setCell];omega) (ZD _ _ H) HK) ?_;rintro g⟨D8,N⟩;clear D8)|(refine be (qpq (w.1.size+3) s L0 0 (w2.setCell ⟨w.1.size,0,O⟩ (Ag (G ⟨j,0,O⟩))) (T.setOther (by show ¬w.1.size=w.1.size+3;omega) _) (by rw[size_setCell];omega) HK) λg N=>?_));have P9:w2.1.size<=g.1.size:=(by have:=N.size;rw[size_setCell]at this;exact this);obtain⟨d,a⟩:=jZ N;rw[size_setCell]at d a;have g0:g.cell? ⟨w.1.size,0,O⟩=G (Ag (G ⟨j,0,O⟩)):=(d _ 0 ub ub).trans (by simp[go_sem,c0]);have g1:g.cell? ⟨w.1.size+1,0,O⟩=G (I J 0):=(d _ 0 ub ub).trans (by simp[go_sem,c1]);have g2:g.cell? ⟨w.1.size+2,0,O⟩=G (I J 0):=(d _ 0 ub ub).trans (by simp[go_sem,c2]);have i0:g.frozen? ⟨w.1.size,0,O⟩=false:=(a _ 0 ub ub).trans (by simp[go_sem,d0]);have i1:g.frozen? ⟨w.1.size+1,0,O⟩=false:=(a _ 0 ub ub).trans (by simp[go_sem,d1]);have i2:g.frozen? ⟨w.1.size+2,0,O⟩=false:=(a _ 0 ub ub).trans (by simp[go_sem,d2]);have K:=qd N;clear N d a c0 c1 c2 d0 d1 d2;first|simp only[tkV]|simp only[ve])|(go_at_call 84;refine(CHK g (Ag (G ⟨j,0,O⟩)) (L.above (((Above.mk ui (λ_ _ _=>rfl)).setCell (p:=⟨w.1.size,0,O⟩) (by show w.1.size<=w.1.size+3;omega) (Ag (G ⟨j,0,O⟩))).trans K.above))).mono ?_;rintro e i⟨m,h4⟩;rw[q9 HCH]at h4;subst h4;have RR:=m.size;obtain⟨R,Q⟩:=qk m;have j0:i.cell? ⟨w.1.size,0,O⟩=G (Ag (G ⟨j,0,O⟩)):=(R _ 0 ub).trans g0;have j1:i.cell? ⟨w.1.size+1,0,O⟩=G (I J 0):=(R _ 0 ub).trans g1;have j2:i.cell? ⟨w.1.size+2,0,O⟩=G (I J 0):=(R _ 0 ub).trans g2;have l0:i.frozen? ⟨w.1.size,0,O⟩=false:=(Q _ 0 ub).trans i0;have l1:i.frozen? ⟨w.1.size+1,0,O⟩=false:=(Q _ 0 ub).trans i1;have l2:i.frozen? ⟨w.1.size+2,0,O⟩=false:=(Q _ 0 ub).trans i2;have m:=qd m;clear R Q g0 g1 g2 i0 i1 i2;try simp only[ve]))
   refine leaves_cons (f:=80) (args:=#[Ag (G ⟨w.1.size,0,O⟩),Ag (G ⟨w.1.size+1,0,O⟩),Ag (G ⟨w.1.size+2,0,O⟩)]) uc (by simp[go_sem]) ?_
   first
    | (
     refine(xX w.1.size (Ag (G ⟨j,0,O⟩)) (I J 0) (I J 0) _ _ [] i ub j0 j1 j2 l0 l1 l2).mono ?_;rintro e Z X⟨rfl,rfl,C,k1,A,z⟩;have M:=qd (((K.below ((H.below S ub ub).setCell (by show w.1.size<=w.1.size;omega) _) ub (by rw[size_setCell];omega)).trans (m.mono ub)).trans z);simp[Leaves,settle,results,results49,go_sem,C,k1,A]
     exact⟨q9 M,rfl⟩)
    | (
     have _q:=m;refine(qs3 _ _ _ _).mono ?_;rintro e Z X⟨rfl,rfl,rfl⟩;simp[Leaves,settle,results,results49,go_sem,j0,j1,j2];have A2:Above (w.1.size+3) w2 i:=(((Above.mk ui (λ_ _ _=>rfl)).setCell (p:=⟨w.1.size,0,O⟩) (by show w.1.size<=w.1.size+3;omega) (Ag (G ⟨j,0,O⟩))).trans K.above).trans (Kept.of_below m).above;have B4:Xb w i:=(K.below ((H.below S ub ub).setCell (by show w.1.size<=w.1.size;omega) _) ub (by rw[size_setCell];omega)).trans (m.mono ub)
     exact⟨((B4.setCell (by show w.1.size<=w.1.size;omega) _).setCell (by show w.1.size<=w.1.size+1;omega) _).setCell (by show w.1.size<=w.1.size+1+1;omega) _,_,rfl,L.above (((A2.setCell (by show w.1.size<=w.1.size+3;omega) _).setCell (by show w.1.size+1<=w.1.size+3;omega) _).setCell (by show w.1.size+1+1<=w.1.size+3;omega) _)⟩)
    | (
     refine(xX w.1.size (Ag (G ⟨j,0,O⟩)) (I J 0) (I J 0) _ _ [] g ub g0 g1 g2 i0 i1 i2).mono ?_;rintro e Z X⟨rfl,rfl,C,k1,A,z⟩;have M:=qd ((K.below ((H.below S ub ub).setCell (by show w.1.size<=w.1.size;omega) _) ub (by rw[size_setCell];omega)).trans z);simp[Leaves,settle,results,results49,go_sem,C,k1,A]
     exact⟨q9 M,rfl⟩)
    | (
     refine(xX w.1.size (Ag O) (I J 0) (I J 0) _ _ [] w2 ub c0 c1 c2 d0 d1 d2).mono ?_;rintro e Z X⟨rfl,rfl,C,k1,A,z⟩;have M:=qd ((H.below S ub ub).trans z);simp[Leaves,settle,results,results49,go_sem,C,k1,A]
     exact⟨q9 M,rfl⟩)
 rw[vq,ak hs];have hb:decide ((200:Int)<(s.size:Int))=true:=di ub;clear r V4 hs
 go_enter_defers func49,ntmps49
 go_wp2
 have q0:(((w.alloc (Al #[Ag O] 91)).alloc (Al #[I J 1] 58)).alloc (Al #[I J 0] 3)).cell? ⟨w.1.size,0,O⟩=G (Ag O):=by
  rw[bw _ _ _ ug,bw _ _ _ uc,ch _ _ _ _ rfl];rfl
 have q1:(((w.alloc (Al #[Ag O] 91)).alloc (Al #[I J 1] 58)).alloc (Al #[I J 0] 3)).cell? ⟨w.1.size+1,0,O⟩=G (I J 1):=by
  rw[bw _ _ _ uc,ch _ _ _ _ uc];rfl
 have q2:(((w.alloc (Al #[Ag O] 91)).alloc (Al #[I J 1] 58)).alloc (Al #[I J 0] 3)).cell? ⟨w.1.size+1+1,0,O⟩=G (I J 0):=by
  rw[ch _ _ _ _ uc];rfl
 simp[bodyPostD,Leaves,results,results49,go_sem,q0,q1,q2];exact⟨zk _ _ _ _,rfl⟩
structure LibOk(w:Ao):Prop where
 err:ErrOk w
 max:4<w.1.size/\∃m,w.cell? ⟨4,0,O⟩=G (I J m)
 pow : Lib.TabIs prog w "internal/strconv.uint64pow10" .u64 Lib.pow10Tab
theorem LibOk.below(h:LibOk w)(a:Below B w w')(d:w.1.size<=B):LibOk w':=by
 obtain⟨f,m,g⟩:=h.max;exact⟨h.err.below a d,⟨aq f (uu a.size),m,(a.cell (p:=⟨4,0,O⟩) (aq f d)).trans g⟩,(Lib.tabBelow_of_tabIs h.pow) w' (a.mono d)⟩
theorem LibOk.alloc(h:LibOk w)(o:Obj):LibOk (w.alloc o):=h.below (uj.alloc ui o) ui
structure CP where
 op:Int
 K:Int
 V:List UInt8
 h:List UInt8
inductive Co where
 | leaf (p:CP)
 | un (p:CP) (x:Co)
 | bin (p:CP) (x y:Co)
def qL(s:List UInt8):List UInt8:=39::(yg s++[39])
def jw(op:Int):List UInt8:=
 if op==6 then[65,78,68] else if op==7 then[79,82] else if op==8 then[61] else if op==10 then[60] else if op==11 then[60,61]
 else if op==16 then[43] else if op==17 then[45] else if op==18 then[42] else[47]
def qi4(e:List UInt8):List UInt8:=if e.isEmpty then[] else[32,69,83,67,65,80,69,32]++qL e
def qI(p:CP)(l r:List UInt8):List UInt8:=
 if p.op==0 then p.V else if p.op==1 then Lib.itoa p.K else if p.op==2 then qL p.V else if p.op==3 then[84,82,85,69] else if p.op==4 then[70,65,76,83,69]
 else if p.op==5 then[40,78,79,84,32]++l++[41] else if p.op==23 then[40]++l++[32,73,83,32,78,85,76,76,41]
 else if p.op==22 then[40]++l++[32,76,73,75,69,32]++qL p.V++qi4 p.h++[41]
 else[40]++l++[32]++jw p.op++[32]++r++[41]
def qt:Co->List UInt8
 | .leaf p=>qI p [] []
 | .un p x=>qI p (qt x) []
 | .bin p x y=>qI p (qt x) (qt y)
def opC:Co->Int
 | .leaf p=>p.op
 | .un p _=>p.op
 | .bin p _ _=>p.op
def qq(op:Int):CP:=⟨op,0,[],[]⟩
def xY(op:Int):Bool:=op==6||op==7||op==8||op==16||op==18
def qp(op:Int)(x y:Co):Co:=if xY op&&Op.bytesLess (qt y) (qt x) then .bin (qq op) y x else .bin (qq op) x y
def vg:Co->Co
 | .leaf p=>if p.op==3 then .leaf (qq 4) else if p.op==4 then .leaf (qq 3) else .un (qq 5) (.leaf p)
 | .un p x=>if p.op==5&&opC x != 0 then x else .un (qq 5) (.un p x)
 | .bin p x y=>if p.op==6 then qp 7 (vg x) (vg y) else if p.op==7 then qp 6 (vg x) (vg y)
   else if p.op==10 then qp 11 y x else if p.op==11 then qp 10 y x else .un (qq 5) (.bin p x y)
def vi(s:List UInt8):Co:=.leaf ⟨2,0,s,[]⟩
def kL(n:Int):Co:=.leaf ⟨1,n,[],[]⟩
def za(x:Co):Co->List (List UInt8)->Co
 | f,[]=>f
 | f,t::r=>za x (qp 7 f (qp 8 x (vi t))) r
def vo(ts:List (List UInt8)):List (List UInt8):=Lib.compact (ts.mergeSort λx y=>decide (x<=y))
def vI(x:Co)(ts:List (List UInt8)):Co:=match vo ts with
 | []=>x
 | t::r=>za x (qp 8 x (vi t)) r
def xU(p:Pay):CP:=⟨p.op,p.K,p.V,p.h⟩
def qj:Ast->Co
 | .leaf p=>.leaf (xU p)
 | .un p x=>if p.op==14 then qp 16 (kL 0) (qj x) else if p.op==15 then qp 17 (kL 0) (qj x) else if p.op==5 then vg (qj x)
   else if p.op==21 then vI (qj x) p.P else .un (xU p) (qj x)
 | .bin p x y=>if p.op==12 then qp 10 (qj y) (qj x) else if p.op==13 then qp 11 (qj y) (qj x) else if p.op==9 then vg (qp 8 (qj x) (qj y)) else qp p.op (qj x) (qj y)
 | .tri _ x y z=>qp 6 (qp 11 (qj y) (qj x)) (qp 11 (qj x) (qj z))
structure CellsC(B E:Nat)(w:Ao)(b:Nat)(p:CP)(l r:Ap)(t:List UInt8):Prop where
 lo:B<=b
 hi:b<E
 within:b<w.1.size
 c0:w.cell? ⟨b,0,O⟩=G (I J p.op)
 c1:w.cell? ⟨b,1,O⟩=G l
 c2:w.cell? ⟨b,2,O⟩=G r
 c3:w.cell? ⟨b,3,O⟩=G (I J p.K)
 c4:w.cell? ⟨b,4,O⟩=G (Y (BS p.V))
 c5:w.cell? ⟨b,5,O⟩=G (Y (BS p.h))
 c6:w.cell? ⟨b,6,O⟩=G (Y (BS t))
def vej:Ap:=Ag O
def at0(b:Nat):Ap:=Ag (G ⟨b,0,O⟩)
def CoAt(B E:Nat)(w:Ao)(v:Ap):Co->Prop
 | .leaf p=>∃b,v=at0 b/\CellsC B E w b p vej vej (qt (.leaf p))
 | .un p x=>∃b vx,v=at0 b/\CellsC B E w b p vx vej (qt (.un p x))/\CoAt B E w vx x
 | .bin p x y=>∃b vx vy,v=at0 b/\CellsC B E w b p vx vy (qt (.bin p x y))/\CoAt B E w vx x/\CoAt B E w vy y
theorem CellsC.keep{p:CP}{l r:Ap}(h:CellsC B E w b p l r t)(i:E<=E')(g:∀k,B<=k->k<E->w'.1[k]?=w.1[k]?)(f:w.1.size<=w'.1.size):CellsC B E' w' b p l r t:=by
 have d:∀j,w'.cell? ⟨b,j,O⟩=w.cell? ⟨b,j,O⟩:=λj=>aw (w:=w) (w':=w') (a:=⟨b,j,O⟩) (g b h.lo h.hi)
 exact⟨h.lo,aq h.hi i,aq h.within f,(d 0).trans h.c0,(d 1).trans h.c1,(d 2).trans h.c2,(d 3).trans h.c3,(d 4).trans h.c4,(d 5).trans h.c5,(d 6).trans h.c6⟩
theorem CoAt.keep(g:E<=E')(f:∀k,B<=k->k<E->w'.1[k]?=w.1[k]?)(a:w.1.size<=w'.1.size):∀{c:Co} {v:Ap},CoAt B E w v c->CoAt B E' w' v c:=by
 intro c
 induction c with
 | leaf p=>rintro v⟨b,rfl,h⟩;exact⟨b,rfl,h.keep g f a⟩
 | un p x ih=>rintro v⟨b,vx,rfl,h,d⟩;exact⟨b,vx,rfl,h.keep g f a,ih d⟩
 | bin p x y ihx ihy=>rintro v⟨b,vx,vy,rfl,h,d,i⟩;exact⟨b,vx,vy,rfl,h.keep g f a,ihx d,ihy i⟩
theorem CoAt.below(a:Xb w w'){c:Co}(h:CoAt B w.1.size w v c):CoAt B w'.1.size w' v c:=
 h.keep a.size (λk _ d=>a.block k d) a.size
theorem CoAt.head{c:Co}(h:CoAt B E w v c):∃b p l r,v=at0 b/\p.op=opC c/\CellsC B E w b p l r (qt c):=by
 cases c with
 | leaf p=>obtain⟨b,rfl,h⟩:=h;exact⟨b,p,_,_,rfl,rfl,h⟩
 | un p x=>obtain⟨b,vx,rfl,h,_⟩:=h;exact⟨b,p,_,_,rfl,rfl,h⟩
 | bin p x y=>obtain⟨b,vx,vy,rfl,h,_⟩:=h;exact⟨b,p,_,_,rfl,rfl,h⟩
def TextAt(w:Ao)(v:Ap)(t:List UInt8):Prop:=∃b,v=at0 b/\b<w.1.size/\w.cell? ⟨b,6,O⟩=G (Y (BS t))
theorem CoAt.Q{c:Co}(h:CoAt B E w v c):TextAt w v (qt c):=by
 obtain⟨b,p,l,r,rfl,_,h⟩:=h.head;exact⟨b,rfl,h.within,h.c6⟩
theorem qta(ps:List Pc):∀(k:Nat) (p:Pc),ps[k]?=G p->(xH ps)[k * 2]?=G (I J p.A)/\(xH ps)[k * 2+1]?=G (I .u8 p.c.toNat):=by
 induction ps with
 | nil=>intro k p h;simp at h
 | cons q r ih=>
  intro k p h;have a:xH (q::r)=I J q.A::I .u8 q.c.toNat::xH r:=rfl;rw[a]
  cases k with
  | zero=>simp at h;subst h;exact⟨rfl,rfl⟩
  | succ k=>
   have:=ih k p (by simpa using h);rw[show(k+1) * 2=k * 2+1+1 by omega];exact⟨by simpa using this.1,by simpa using this.2⟩
theorem vdg{ps:List Pc}{p:Pc}(h:ps[k]?=G p):ko (ps.drop k) t e=ko (ps.drop (k+1)) t (nextB p t e):=by
 obtain⟨a,d⟩:=aj.1 h;rw[cj a,d,ko]
theorem vjg{ps:List Pc}(h:ps.length<=k):ko (ps.drop k) t e=e t.length:=by
 rw[eh h,ko]
theorem qg4(e:tu):(p:tu)->∀ps,zJ e p=G ps->ps.length<=p.length
 | [],ps,h=>by rw[zJ]at h;injection h with h;subst h;simp
 | [c],ps,h=>by
  simp only[zJ]at h
  split at h
  .cases h
  .injection h with h;subst h;simp
 | c::d::t,ps,h=>by
  simp only[zJ]at h
  split at h
  .cases hq:zJ e t with
   | none=>rw[hq]at h;cases h
   | some q=>rw[hq]at h;injection h with h;subst h;have:=qg4 e t q hq;simp;omega
  .cases hq:zJ e (d::t) with
   | none=>rw[hq]at h;cases h
   | some q=>rw[hq]at h;injection h with h;subst h;have:=qg4 e (d::t) q hq;simp at this |-;omega
theorem qt9{e:Nat}(h:w.ownsRow base e size v n xs):∃a c,v=C a n c/\∀(j:Nat) (u:Ap),xs[j]?=G u->∃g,a=G ⟨g,0,O⟩/\Xc w g j u/\g<w.1.size/\base<=g:=by
 have o:=h;rcases h.2 with⟨rfl,f⟩|⟨g,cap,cur,rfl,m,i,_⟩;refine⟨O,0,by rw[f],λj u d=>?_⟩;have:=h.1;rw[f,tg]at this;rw[de this]at d;simp at d;refine⟨G ⟨g,0,O⟩,cap,rfl,λj u d=>⟨g,rfl, ?_,(cf.1 i).1,m⟩⟩;have:=o.cells (g:=g) rfl j u d;have q:(⟨g,0,O⟩:Addr).add j=⟨g,j,O⟩:=by unfold Addr.add;split<;>simp_all
 rwa [q]at this
theorem qsm(w:Ao)(m:Nat):∀j,j<m->Xc (w.alloc (Al ((madeCells #[Ah false] m).setIfInBounds 0 (Ah true)) 4)) w.1.size j (Ah (j==0)):=by
 have d:((madeCells #[Ah false] m).setIfInBounds 0 (Ah true)).size=m:=by rw[Array.size_setIfInBounds];exact size_madeCells _ _
 have f:=World.rowIs_alloc w ((madeCells #[Ah false] m).setIfInBounds 0 (Ah true)) 4 (λj=>Ah (j==0)) (λi a=>by
  rw[d]at a;rw[ov]
  by_cases h0:i=0
  subst h0;rw[bo rfl,bo (by rw[size_madeCells _ _];exact a)];rfl;rw[ak (λh=>h0 h.symm)]
  simp[madeCells,a,Nat.mod_one,h0])
 intro j g;exact f.cell (by rw[d];exact g)
theorem BoolsAt.below(h:BoolsAt w b n e)(d:Xb w w')(f:b<w.1.size):BoolsAt w' b n e:=λj a=>(d.cell (p:=⟨b,j,O⟩) f).trans (h j a)
theorem vdh(pat esc t:tq)(hp:pat.size<=200)(ht:t.size<=1000)(w:Ao):
  ua 179 #[Y pat,Y esc,Y t] w λo w'=>o=Ak (Ah (qiv pat.data.toList esc.data.toList t.data.toList))/\Xb w w':=by
 have CUT:=qd (qmo pat esc hp w);unfold qiv
 cases hc:zJ esc.data.toList pat.data.toList with
 | none=>
  rw[hc]at CUT;go_enter func179,ntmps179
  go_wp2_with(go_at_call 214;refine CUT.mono ?_;rintro o d⟨u,h1⟩;subst h1)
  go_ret;exact⟨rfl,u⟩
 | some ps=>
  rw[hc]at CUT;have N:=qg4 _ _ _ hc;rw[qu]at N;obtain⟨m,hm⟩:=it (t.size+1);have ON:=run_make_row' (P:=prog) 263 4 (Ah false) 1 underlying263 qcx rfl J J m ub ub;have S:0<m:=ub;have hmi:(t.size:Int)+1=(m:Int):=ub;obtain⟨R,M⟩:∃r,ko ps t.data.toList (λj=>j==0)=r:=⟨_,rfl⟩;show Calls _ _ _ _ (λo w'=>o=Ak (Ah (ko ps t.data.toList λj=>j==0))/\Xb w w');rw[M];have HR:=qd M;obtain⟨n,F⟩:=it ps.length;rw[F]at N;have z:=qd F;go_enter func179,ntmps179
  go_wp2_with(go_at_call 214;refine CUT.mono ?_;rintro o d⟨u,v1,rfl,B7⟩;obtain⟨va,vc,rfl,F3⟩:=qt9 B7;rw[q9 z];have wA:=(World.rowIs_made d (Ah false) m 4).cell (i:=0) S;have rY:=(World.rowIs_made d (Ah false) m 4).frozen 0)
  have D:=qd F3;have ST:=qd (qsm d m);have u:=qd u
  go_loopw [9,28] (λT i wr=>∃(k a:Nat) (f:Nat->Bool),k<=n/\i=I J k/\T=C (G ⟨a,0,O⟩) m m/\Hid (BoolsAt wr a t.size f)/\a<wr.1.size/\Hid (R=ko (ps.drop k) t.data.toList f)/\Hid (Xb d wr)) (λ_ i _=>n - (intOf i).toNat)
  exact⟨0,d.1.size,λj=>j==0,bt _,rfl,rfl,qd (λj hj=>q9 ST j ub),uc,qd (by rw[dw,q9 HR]),qd (uj.alloc ui _)⟩;obtain⟨k,a,f,hk,rfl,rfl,L,y,H,q⟩:=hrel;have Y6:=(q9 q).size
  by_cases A1:k<n
  .obtain⟨p,dM⟩:∃p,ps[k]?=G p:=⟨_,ag (by rw[q9 z];exact A1)⟩
   obtain⟨W,U⟩:=qta ps k p dM;obtain⟨g,rfl,Z,K,_⟩:=q9 D _ _ W;obtain⟨g',G7,C9,_,_⟩:=q9 D _ _ U;obtain rfl:g=g':=by simpa using G7
   have d0:=(q.cell (p:=⟨g,k * 2,O⟩) K).trans Z;have d1:=(q.cell (p:=⟨g,k * 2+1,O⟩) K).trans C9;have A:Hid (R=ko (ps.drop (k+1)) t.data.toList (nextB p t.data.toList f)):=qd (by rw[q9 H,vdg dM]);have Q:=qd (λw2 (h:BoolsAt w2 a t.size f) (hl:a<w2.1.size)=>vdk p f a m t ht w2 h hl);rw[hm]at Q
   go_wp2_with(go_at_call 215;refine(Q _ (L.below (uj.alloc ui _) y) ud).mono ?_;rintro o w2⟨X,rfl,cZ,U6,OX,A3⟩)
   go_roundw
   case rel=>exact⟨k+1,X,_,ub,by go_num,rfl,qd OX,U6,A,qd (q.trans ((vf A3).mono ub))⟩
   simp[intOf];omega
  have A:Hid (R=f t.size):=qd (by rw[q9 H,vjg (by rw[q9 z];omega),qu]);have E6:=q9 L t.size ui
  go_wp2
  go_ret;exact⟨by rw[q9 A];rfl,qg u q⟩
theorem vbe(x:V)(pat esc:tq)(hp:pat.size<=200)(y:x.V.length<=1000)(w:Ao):
  Calls prog 127 #[vV x,Y pat,Y esc] w λe w'=>e=Ak (vV (qbu x pat.data.toList esc.data.toList))/\Xb w w':=by
 unfold qbu;have FIT:=qd (λw=>vdh pat esc (BS x.V) hp (by rw[qJ];exact y) w);cases hk:(x.A==3)
 .have D:(x.A != 3)=true:=by simp only[bne,hk];rfl
  simp only[dg,if_false]
  conv=>arg 3;simp only[vV]
  go_enter func127,ntmps127
  go_wp2_with(go_at_call 175;refine be (jT _) λw' m=>?_;obtain⟨z,K⟩:=qk m;simp only[vV])
  refine bj (by simp[go_sem,z]<;>rfl) rfl ⟨rfl, ?_⟩;exact((((qg (qK _ _ _) m).setCell uc _).setCell uc _).setCell uc _)
 have D:(x.A != 3)=false:=by simp only[bne,hk];rfl
 simp only[if_true];obtain⟨r,g⟩:=it (qiv pat.data.toList esc.data.toList x.V);have G:Hid (qiv pat.data.toList esc.data.toList (BS x.V).data.toList=r):=qd (by rw[xB];exact g);rw[g];clear g
 conv=>arg 3;simp only[vV]
 go_enter func127,ntmps127
 go_wp2_with(first|(go_at_call 179;refine(FIT _).mono ?_;rw[q9 G];rintro e f⟨rfl,a⟩;have o:w.1.size+1<f.1.size:=(by have:=a.size;simp at this;omega);have A:∀i,f.cell? ⟨w.1.size+1,i,O⟩=(#[I J 0,I J 0,Y ⟨#[]⟩]:Array Ap)[i]?:=(λi=>((qk a).1 _ i uc).trans uc);have q:Xf f (w.1.size+1):=(λj=>((qk a).2 _ j uc).trans uc);have F:=qd (qg (qK _ _ _) a);clear a)|(go_at_call 91;refine be (zF r _) λw2 d=>?_;have u:∀i,w2.cell? ⟨w.1.size+1,i,O⟩=(#[I J 0,I J 0,Y ⟨#[]⟩]:Array Ap)[i]?:=(λi=>((qk d).1 _ i o).trans (A i));have H:Xf w2 (w.1.size+1):=(λj=>((qk d).2 _ j o).trans (q j));have C:=qd (qg F d);clear d;simp only[vV]))
 refine bj (by simp[go_sem,u]<;>rfl) rfl ⟨rfl, ?_⟩;exact((C.setCell uc _).setCell uc _).setCell uc _
theorem qsz(op:Int)(x y:V)(a:Rng x.K)(d:Rng y.K):zL op x y (jY op x y):=by
 by_cases aX:op=14
 .subst aX;exact vk0 x y a
 by_cases T2:op=15
 .subst T2;exact vk1 x y a
 exact vdw op aX T2 x y a d
def Sh(v:V):Prop:=v.V.length<=1000
theorem qdz(b:Bool):Sh (bV b):=bt _
theorem qe0:Sh nV:=bt _
theorem vhz(n:Int):Sh (iV n):=bt _
theorem vd{c:Prop}[Decidable c]{a b:V}(f:Sh a)(d:Sh b):Sh (if c then a else b):=by
 split
 exact f;exact d
theorem va7(op:Int)(x y:V):Sh (jY op x y):=by
 unfold jY;refine vd (vd (qdz _) qe0) (vd (vd (qdz _) (vd (qdz _) qe0)) (vd (vd (qdz _) (vd (qdz _) qe0)) (vd (vd qe0 (qdz _)) (vd (vd (qdz _) qe0) (vd (vd (qdz _) qe0) (vd (vd (qdz _) qe0) (vd (vd (qdz _) qe0) (vd (vd (qdz _) qe0) (vd (vd (vhz _) qe0) (vd (vd (vhz _) qe0) (vd (vd (vhz _) qe0) (vd (vd (vhz _) qe0) (vd (vd (vhz _) qe0) (vd (vd (vhz _) qe0) (qdz _)))))))))))))))
theorem vrj(x y:V):Sh (orV x y):=vd (qdz _) (vd (qdz _) qe0)
theorem vge(x:V)(ts:List tu):∀f:V,Sh f->Sh (ts.foldl (λf t=>orV f (eqV x (tV t))) f):=by
 induction ts with
 | nil=>intro f h;exact h
 | cons t r ih=>intro f _;exact ih _ (vrj _ _)
theorem vgf(p:Pay)(x y z:V):Sh (xM p x y z):=by
 unfold xM;refine vd (vd (qdz _) (vd (qdz _) qe0)) (vd (vge x _ _ (qdz _)) (vd (vd (qdz _) qe0) (va7 _ _ _)))
def vh7(ps:List Pr):Prop:=∀p∈ps,Sh p.val
theorem vri(h:vh7 ps)(hp:p.V.length<=200)(s:List V):Sh (ofN ps p s):=by
 unfold ofN;refine vd ?_ (vd (vhz _) (vd ?_ (vd (qdz _) (vd (qdz _) (vgf _ _ _ _)))));unfold yh
 split
 rename_i q hq;exact h q (nj hq);exact qe0;show p.V.length<=1000;omega
theorem qjv:∀s:tu,Lib.replaceK [39] [39,39] (Lib.count s [39]) s=yg s:=by
 intro s
 induction s with
 | nil=>rfl
 | cons b l ih=>
  rw[yg]
  by_cases hb:b=39
  .subst hb
   rw[Lib.count_cons_eq,Nat.add_comm,Lib.replaceK_hit _ _ _ _ 0 (by rfl),bo (by rfl)];show[]++[39,39]++Lib.replaceK [39] [39,39] (Lib.count l [39]) l=_;rw[ih];rfl
  rw[Lib.count_cons_ne b 39 l hb,ak (by simpa using hb)]
  cases hc:Lib.count l [39] with
  | zero=>
   rw[hc]at ih;show b::l=b::yg l;rw[<-ih];rfl
  | succ k=>
   obtain⟨i,a⟩:=Lib.index_of_count (s:=l) (old:=[39]) (by rw[hc];omega)
   have f:Lib.index (b::l) [39]=((i+1:Nat):Int):=by
    rw[Lib.index]
    have d:([39]:tu).isPrefixOf (b::l)=false:=by
     show((39:UInt8)==b&&true)=false;rw[mn];apply bh.2;intro e;exact hb e.symm
    rw[d,ak ue,ak (by rw[a];intro e;have:=eq_of_beq e;omega),a]
    push_cast
    rfl
   rw[hc,Lib.replaceK_hit _ _ _ _ i a]at ih;rw[Lib.replaceK_hit _ _ _ _ (i+1) f,<-ih];rfl
theorem qej(s:tu):Lib.replaceAll s [39] [39,39]=yg s:=by
 unfold Lib.replaceAll Lib.replace;rw[ak ue];unfold Lib.replaceNum;rw[bo (Am ue)];exact qjv s
theorem jr(s t:tq)(m n:Nat)(d:s.size<=m)(a:t.size<=n)(h:m+n<=9000000000):∃r,r=s++t/\r.size<=m+n/\∀w:Ao,(Op.stringOp .add s t).run prog w=.ok (Y r) w:=
 ⟨s++t,rfl,by rw[ByteArray.size_append];omega,λw=>run_string_add_sum (P:=prog) (w:=w) _ _ ub⟩
theorem qa4(s:tu):(qL s).length<=2 * s.length+2:=by
 have:=qqc s;unfold qL;simp;omega
theorem pw(s:tu)(r:s.length<=1000000000)(w:Ao)(i:LibOk w):
  ut 223 #[Y (BS s)] w (Y (BS (qL s))):=by
 obtain⟨_,m,f⟩:=i.max;have g:=Lib.countB_le ⟨#[39]⟩ ue _ (BS s) ui;rw[qJ]at g;have a:=Tryz.strings_ReplaceAll (BS s) ⟨#[39]⟩ ⟨#[39,39]⟩ m w (by rw[qJ];omega) f ue (by rw[qJ];show _+_ * 2<=_;omega);rw[show Lib.replaceAll (BS s).data.toList (⟨#[39]⟩:tq).data.toList (⟨#[39,39]⟩:tq).data.toList=yg s from qej s]at a;have u:Hid (ut 248 #[Y (BS s),Y ⟨#[39]⟩,Y ⟨#[39,39]⟩] w (Y (BS (yg s)))):=qd a;have hd:=qqc s;obtain⟨z,o,d,G⟩:=jr ⟨#[39]⟩ (BS (yg s)) 1 2000000000 ui (by rw[qJ];omega) ue;obtain⟨y,j,q,F⟩:=jr z ⟨#[39]⟩ 2000000001 1 d ui ue
 have A:Hid (y=BS (qL s)):=qd (by
  rw[j,o,show(⟨#[39]⟩:tq)=BS [39] from rfl,jP,jP]
  rfl)
 clear a f i g r hd o d j q;go_enter func223,ntmps223
 go_wp2_with(go_at_call 248;refine be u λD C=>?_)
 go_ret;exact⟨by rw[q9 A];rfl,C⟩
theorem qe1(op:Int):(jw op).length<=3:=by
 unfold jw
 repeat' split
 all_goals decide
theorem qw8(op:Int)(w:Ao):
  ua 225 #[I J op] w λe w'=>e=Ak (Y (BS (jw op)))/\w'=w:=by
 go_enter func225,ntmps225
 go_wp2
 all_goals(go_ret;refine⟨?_,rfl⟩;go_light;simp only[jw, *,if_true,dg,if_false];rfl)
theorem gE(op:Int)(w:Ao):
  ua 193 #[I J op] w λe w'=>e=Ak (Ah (xY op))/\w'=w:=by
 go_enter func193,ntmps193
 go_wp2
 all_goals(go_ret;refine⟨?_,rfl⟩;go_light;simp only[xY, *,Bool.or_true,ti,mj];rfl)
theorem qe3(b:Nat)(s:tu)(d:s.length<=1000000000)(w:Ao)(a:LibOk w)(u:Xc w b 5 (Y (BS s))):
  ut 224 #[at0 b] w (Y (BS (qi4 s))):=by
 unfold at0 qi4
 cases he:s.isEmpty with
 | true=>
  have i:(BS s).toList.isEmpty=true:=by rw[qP];exact he
  rw[bo rfl];clear a;go_enter func224,ntmps224
  go_wp2
  go_ret;exact⟨rfl,uj⟩
 | false=>
  have i:(BS s).toList.isEmpty=false:=by rw[qP];exact he
  rw[ak ue];have o:=qd (pw s d w a);have hq:=qa4 s;obtain⟨j,f,g,y⟩:=jr ⟨#[32,69,83,67,65,80,69,32]⟩ (BS (qL s)) 8 2000000002 ui (by rw[qJ];omega) ue;have m:Hid (j=BS ([32,69,83,67,65,80,69,32]++qL s)):=qd (by rw[f,show(⟨#[32,69,83,67,65,80,69,32]⟩:tq)=BS [32,69,83,67,65,80,69,32] from rfl,jP]);clear a d hq f g he;go_enter func224,ntmps224
  go_wp2_with(go_at_call 223;refine be o λr q=>?_)
  go_ret;exact⟨by rw[q9 m];rfl,q⟩
theorem vd8(e:tu):(qi4 e).length<=2 * e.length+10:=by
 have:=qa4 e;unfold qi4
 split
 simp;simp;omega
theorem qry(w:Ao)(k:Nat)(os:Array Obj):Xb w (Sort.grow (w.drewN k) os):=
 ⟨rfl,rfl,rfl,by first|(simp[Sort.grow];done)|(simp[Sort.grow];omega),λi a=>by
  show((w.drewN k).1++os)[i]?=_;rw[Array.getElem?_append_left (by show i<w.1.size;omega)]
  rfl⟩
structure SpA(w:Ao)(b:Nat)(p:CP)(l r:Ap):Prop where
 lib:LibOk w
 lt:b<w.1.size
 c0:w.cell? ⟨b,0,O⟩=G (I J p.op)
 c1:w.cell? ⟨b,1,O⟩=G l
 c2:w.cell? ⟨b,2,O⟩=G r
 c3:w.cell? ⟨b,3,O⟩=G (I J p.K)
 c4:w.cell? ⟨b,4,O⟩=G (Y (BS p.V))
 c5:w.cell? ⟨b,5,O⟩=G (Y (BS p.h))
 rng:Rng p.K
 s4:p.V.length<=1000000000
 s5:p.h.length<=1000000000
theorem vmo(w:Ao)(b:Nat)(p:CP)(l r:Ap)(h:SpA w b p l r)(lt rt:tu)(a:p.op=0):
  ut 197 #[at0 b] w (Y (BS (qI p lt rt))):=by
 have d:(p.op==0)=true:=by rw[a];rfl
 have c0:=h.c0
 have hv:qI p lt rt=p.V:=by
  unfold qI;rw[d];rfl
 rw[hv];unfold at0;have c4:=h.c4;go_enter func197,ntmps197
 go_wp2
 go_ret;exact⟨rfl,uj⟩
theorem vmp(w:Ao)(b:Nat)(p:CP)(l r:Ap)(h:SpA w b p l r)(lt rt:tu)(a:p.op=1):
  Calls prog 197 #[at0 b] w λe w'=>e=Ak (Y (BS (qI p lt rt)))/\Xb w w':=by
 have f:(p.op==0)=false:=by rw[a];rfl
 have d:(p.op==1)=true:=by rw[a];rfl
 have c0:=h.c0
 have hv:qI p lt rt=Lib.itoa p.K:=by
  unfold qI;rw[f,d];rfl
 rw[hv];unfold at0;have c3:=h.c3;have g:=qd (Tryz.strconv_FormatInt_10 p.K h.rng.1 h.rng.2 w h.lib.pow);go_enter func197,ntmps197
 go_wp2_with(go_at_call 222;refine be g ?_;rintro i⟨k,os,rfl⟩)
 go_ret;exact⟨rfl,qry w k os⟩
theorem vmq(w:Ao)(b:Nat)(p:CP)(l r:Ap)(h:SpA w b p l r)(lt rt:tu)(a:p.op=2):
  ut 197 #[at0 b] w (Y (BS (qI p lt rt))):=by
 have g:(p.op==0)=false:=by rw[a];rfl
 have f:(p.op==1)=false:=by rw[a];rfl
 have d:(p.op==2)=true:=by rw[a];rfl
 have c0:=h.c0
 have hv:qI p lt rt=qL p.V:=by
  unfold qI;rw[g,f,d];rfl
 rw[hv];unfold at0;have c4:=h.c4;have i:=qd (pw p.V h.s4 w h.lib);go_enter func197,ntmps197
 go_wp2_with(go_at_call 223;refine be i λm j=>?_)
 go_ret;exact⟨rfl,j⟩
theorem vmr(w:Ao)(b:Nat)(p:CP)(l r:Ap)(h:SpA w b p l r)(lt rt:tu)(a:p.op=3):
  ut 197 #[at0 b] w (Y (BS (qI p lt rt))):=by
 have i:(p.op==0)=false:=by rw[a];rfl
 have g:(p.op==1)=false:=by rw[a];rfl
 have f:(p.op==2)=false:=by rw[a];rfl
 have d:(p.op==3)=true:=by rw[a];rfl
 have c0:=h.c0
 have hv:qI p lt rt=[84,82,85,69]:=by
  unfold qI;rw[i,g,f,d];rfl
 rw[hv];unfold at0;go_enter func197,ntmps197
 go_wp2
 go_ret;exact⟨rfl,uj⟩
theorem vms(w:Ao)(b:Nat)(p:CP)(l r:Ap)(h:SpA w b p l r)(lt rt:tu)(a:p.op=4):
  ut 197 #[at0 b] w (Y (BS (qI p lt rt))):=by
 have j:(p.op==0)=false:=by rw[a];rfl
 have i:(p.op==1)=false:=by rw[a];rfl
 have g:(p.op==2)=false:=by rw[a];rfl
 have f:(p.op==3)=false:=by rw[a];rfl
 have d:(p.op==4)=true:=by rw[a];rfl
 have c0:=h.c0
 have hv:qI p lt rt=[70,65,76,83,69]:=by
  unfold qI;rw[j,i,g,f,d];rfl
 rw[hv];unfold at0;go_enter func197,ntmps197
 go_wp2
 go_ret;exact⟨rfl,uj⟩
theorem vmt(w:Ao)(b:Nat)(p:CP)(l r:Ap)(h:SpA w b p l r)(lt rt:tu)(j:TextAt w l lt)(F:lt.length<=1000000000)(a:p.op=5):
  ut 197 #[at0 b] w (Y (BS (qI p lt rt))):=by
 have z:(p.op==0)=false:=by rw[a];rfl
 have y:(p.op==1)=false:=by rw[a];rfl
 have u:(p.op==2)=false:=by rw[a];rfl
 have q:(p.op==3)=false:=by rw[a];rfl
 have o:(p.op==4)=false:=by rw[a];rfl
 have m:(p.op==5)=true:=by rw[a];rfl
 have c0:=h.c0
 have hv:qI p lt rt=[40,78,79,84,32]++lt++[41]:=by
  unfold qI;rw[z,y,u,q,o,m];rfl
 rw[hv];unfold at0;obtain⟨lb,rfl,J,G⟩:=j;unfold at0 at h;have c1:=h.c1;obtain⟨C,f,d,I⟩:=jr ⟨#[40,78,79,84,32]⟩ (BS lt) 5 1000000000 ui (by rw[qJ];omega) ue;obtain⟨A,g,i,H⟩:=jr C ⟨#[41]⟩ 1000000005 1 d ui ue
 have D:Hid (A=BS ([40,78,79,84,32]++lt++[41])):=qd (by
  rw[g,f,show(⟨#[40,78,79,84,32]⟩:tq)=BS [40,78,79,84,32] from rfl,show(⟨#[41]⟩:tq)=BS [41] from rfl,jP,jP])
 clear f d g i;go_enter func197,ntmps197
 go_wp2
 go_ret;exact⟨by rw[q9 D];rfl,uj⟩
theorem vgm(w:Ao)(b:Nat)(p:CP)(l r:Ap)(h:SpA w b p l r)(lt rt:tu)(j:TextAt w l lt)(G:lt.length<=1000000000)(a:p.op=23):
  ut 197 #[at0 b] w (Y (BS (qI p lt rt))):=by
 have z:(p.op==0)=false:=by rw[a];rfl
 have y:(p.op==1)=false:=by rw[a];rfl
 have u:(p.op==2)=false:=by rw[a];rfl
 have q:(p.op==3)=false:=by rw[a];rfl
 have o:(p.op==4)=false:=by rw[a];rfl
 have m:(p.op==5)=false:=by rw[a];rfl
 have D:(p.op==23)=true:=by rw[a];rfl
 have c0:=h.c0
 have hv:qI p lt rt=[40]++lt++[32,73,83,32,78,85,76,76,41]:=by
  unfold qI;rw[z,y,u,q,o,m,D];rfl
 rw[hv];unfold at0;obtain⟨lb,rfl,K,H⟩:=j;unfold at0 at h;have c1:=h.c1;obtain⟨C,f,d,J⟩:=jr ⟨#[40]⟩ (BS lt) 1 1000000000 ui (by rw[qJ];omega) ue;obtain⟨A,g,i,I⟩:=jr C ⟨#[32,73,83,32,78,85,76,76,41]⟩ 1000000001 9 d ui ue
 have F:Hid (A=BS ([40]++lt++[32,73,83,32,78,85,76,76,41])):=qd (by
  rw[g,f,show(⟨#[40]⟩:tq)=BS [40] from rfl,show(⟨#[32,73,83,32,78,85,76,76,41]⟩:tq)=BS [32,73,83,32,78,85,76,76,41] from rfl,jP,jP])
 clear f d g i;go_enter func197,ntmps197
 go_wp2
 go_ret;exact⟨by rw[q9 F];rfl,uj⟩
theorem vgl(w:Ao)(b:Nat)(p:CP)(l r:Ap)(h:SpA w b p l r)(lt rt:tu)(K:TextAt w l lt)(zl:lt.length<=1000000000)(f:p.op=22):
  ut 197 #[at0 b] w (Y (BS (qI p lt rt))):=by
 have R:(p.op==0)=false:=by rw[f];rfl
 have Q:(p.op==1)=false:=by rw[f];rfl
 have P:(p.op==2)=false:=by rw[f];rfl
 have N:(p.op==3)=false:=by rw[f];rfl
 have M:(p.op==4)=false:=by rw[f];rfl
 have L:(p.op==5)=false:=by rw[f];rfl
 have MA:(p.op==23)=false:=by rw[f];rfl
 have S:(p.op==22)=true:=by rw[f];rfl
 have c0:=h.c0
 have hv:qI p lt rt=[40]++lt++[32,76,73,75,69,32]++qL p.V++qi4 p.h++[41]:=by
  unfold qI;rw[R,Q,P,N,M,L,MA,S];rfl
 rw[hv];unfold at0;obtain⟨lb,rfl,O0,I⟩:=K;unfold at0 at h;have c1:=h.c1;have c4:=h.c4;have c5:=h.c5;have j:=h.lt;have hq:=qa4 p.V;have s4:=h.s4;have s5:=h.s5;have J:=vd8 p.h;obtain⟨R1,D,y,a1⟩:=jr ⟨#[40]⟩ (BS lt) 1 1000000000 ui (by rw[qJ];omega) ue;obtain⟨Z,F,u,a2⟩:=jr R1 ⟨#[32,76,73,75,69,32]⟩ 1000000001 6 y ui ue;obtain⟨X,z,q,a3⟩:=jr Z (BS (qL p.V)) 1000000007 2000000002 u (by rw[qJ];omega) ue;obtain⟨U,A,o,a4⟩:=jr X (BS (qi4 p.h)) 3000000009 2000000010 q (by rw[qJ];omega) ue;obtain⟨T,C,H,a5⟩:=jr U ⟨#[41]⟩ 5000000019 1 o ui ue
 have HR:Hid (T=BS ([40]++lt++[32,76,73,75,69,32]++qL p.V++qi4 p.h++[41])):=qd (by
  rw[C,A,z,F,D,show(⟨#[40]⟩:tq)=BS [40] from rfl,show(⟨#[32,76,73,75,69,32]⟩:tq)=BS [32,76,73,75,69,32] from rfl,show(⟨#[41]⟩:tq)=BS [41] from rfl,jP,jP,jP,jP,jP])
 clear D y F u z q A o C H;have HQ:Hid (∀a,Xb w a->ut 223 #[Y (BS p.V)] a (Y (BS (qL p.V)))):=qd (λa g=>pw p.V s4 a (h.lib.below g ui));have HS:Hid (∀a,Xb w a->ut 224 #[Ag (G ⟨b,0,O⟩)] a (Y (BS (qi4 p.h)))):=qd (λa g=>qe3 b p.h s5 a (h.lib.below g ui) ((g.cell (p:=⟨b,5,O⟩) j).trans c5));have d:Hid (Xb w w.drew):=qd uj.drew;go_enter func197,ntmps197
 go_wp2
 go_region_held3 (λW=>Xc W b 1 (Ag (G ⟨lb,0,O⟩))/\Xc W lb 6 (Y (BS lt))/\Xc W b 4 (Y (BS p.V))) (go_keep) (first|(go_at_call 223;refine be (HQ _ d) λa m=>?_;replace d:=qd (qg d m);obtain⟨i,G8⟩:=qk d;have d1:=(i b 1 j).trans c1;have d2:=(i lb 6 O0).trans I;have d3:=(i b 4 j).trans c4)|(go_at_call 224;refine be (HS _ d) λa m=>?_;replace d:=qd (qg d m);obtain⟨i,G8⟩:=qk d))
 all_goals(go_wp2;go_ret;exact⟨by rw[q9 HR];rfl,q9 d⟩)
theorem vaf(w:Ao)(b:Nat)(p:CP)(l r:Ap)(h:SpA w b p l r)(lt rt:tu)(K:TextAt w l lt)(zl:lt.length<=1000000000)(H:TextAt w r rt)(zr:rt.length<=1000000000)(R:¬p.op=0)(Q:¬p.op=1)(P:¬p.op=2)(N:¬p.op=3)(M:¬p.op=4)(L:¬p.op=5)(M9:¬p.op=23)(a:¬p.op=22):
  ut 197 #[at0 b] w (Y (BS (qI p lt rt))):=by
 have e0:(p.op==0)=false:=bh.2 R;have Z:(p.op==1)=false:=bh.2 Q;have X:(p.op==2)=false:=bh.2 P;have U:(p.op==3)=false:=bh.2 N;have T:(p.op==4)=false:=bh.2 M;have S:(p.op==5)=false:=bh.2 L;have MA:(p.op==23)=false:=bh.2 M9;have WP:(p.op==22)=false:=bh.2 a;have c0:=h.c0
 have hv:qI p lt rt=[40]++lt++[32]++jw p.op++[32]++rt++[41]:=by
  unfold qI;rw[e0,Z,X,U,T,S,MA,WP];rfl
 rw[hv];unfold at0;obtain⟨lb,rfl,O0,lc⟩:=K;obtain⟨m,rfl,aM,rc⟩:=H;unfold at0 at h;have c1:=h.c1;have c2:=h.c2;have F:=qe1 p.op;obtain⟨R1,y,j,a1⟩:=jr ⟨#[40]⟩ (BS lt) 1 1000000000 ui (by rw[qJ];omega) ue;obtain⟨R2,z,i,a2⟩:=jr R1 ⟨#[32]⟩ 1000000001 1 j ui ue;obtain⟨R3,o,g,a3⟩:=jr R2 (BS (jw p.op)) 1000000002 1000 i (by rw[qJ];omega) ue;obtain⟨R4,q,f,a4⟩:=jr R3 ⟨#[32]⟩ 1000001002 1 g ui ue;obtain⟨R5,u,d,a5⟩:=jr R4 (BS rt) 1000001003 1000000000 f (by rw[qJ];omega) ue;obtain⟨R6,A,C,a6⟩:=jr R5 ⟨#[41]⟩ 2000001003 1 d ui ue
 have HR:Hid (R6=BS ([40]++lt++[32]++jw p.op++[32]++rt++[41])):=qd (by
  rw[A,u,q,o,z,y,show(⟨#[40]⟩:tq)=BS [40] from rfl,show(⟨#[32]⟩:tq)=BS [32] from rfl,show(⟨#[41]⟩:tq)=BS [41] from rfl,jP,jP,jP,jP,jP,jP])
 clear y j z i o g q f u d A C;go_enter func197,ntmps197
 go_wp2
 go_region_held3 (λW=>Xc W b 0 (I J p.op)/\Xc W b 1 (Ag (G ⟨lb,0,O⟩))/\Xc W lb 6 (Y (BS lt))/\Xc W b 2 (Ag (G ⟨m,0,O⟩))/\Xc W m 6 (Y (BS rt))) (go_keep) (first|(go_at_call 225;refine be (qw8 _ _) λD cU=>?_;subst D))
 all_goals(go_wp2;go_ret;exact⟨by rw[q9 HR];rfl,uj.drew⟩)
def unB(op:Int):Bool:=op==5||op==22||op==23
def js(op:Int):Bool:=op==0||op==1||op==2||op==3||op==4
theorem vae(w:Ao)(b:Nat)(p:CP)(l r:Ap)(h:SpA w b p l r)(lt rt:tu)(a:lt.length<=1000000000)(f:rt.length<=1000000000)
  (i:js p.op=false->TextAt w l lt) (g:js p.op=false->unB p.op=false->TextAt w r rt) :
  ut 197 #[at0 b] w (Y (BS (qI p lt rt))):=by
 by_cases h0:p.op=0
 .exact vmo w b p l r h lt rt h0
 by_cases h1:p.op=1
 .exact vmp w b p l r h lt rt h1
 by_cases h2:p.op=2
 .exact vmq w b p l r h lt rt h2
 by_cases h3:p.op=3
 .exact vmr w b p l r h lt rt h3
 by_cases h4:p.op=4
 .exact vms w b p l r h lt rt h4
 have d:=i (by unfold js;simp[h0,h1,h2,h3,h4])
 by_cases h5:p.op=5
 .exact vmt w b p l r h lt rt d a h5
 by_cases M9:p.op=23
 .exact vgm w b p l r h lt rt d a M9
 by_cases h22:p.op=22
 .exact vgl w b p l r h lt rt d a h22
 exact vaf w b p l r h lt rt d a (g (by unfold js;simp[h0,h1,h2,h3,h4]) (by unfold unB;simp[h5,h22,M9])) f h0 h1 h2 h3 h4 h5 M9 h22
def coV(p:CP)(l r:Ap):Ap:=Ai #[I J p.op,l,r,I J p.K,Y (BS p.V),Y (BS p.h),Y ⟨#[]⟩]
theorem TextAt.below(h:TextAt w v t)(a:Xb w w'):TextAt w' v t:=by
 obtain⟨b,rfl,d,f⟩:=h;exact⟨b,rfl,aq d a.size,(a.cell (p:=⟨b,6,O⟩) d).trans f⟩
theorem pK(w:Ao)(F:LibOk w)(p:CP)(l r:Ap)(lt rt:tu)(C:Rng p.K)(H:p.V.length<=1000000000)(G:p.h.length<=1000000000)(u:lt.length<=1000000000)(q:rt.length<=1000000000)
  (T:∃a,l=Ag a) (g:∃a,r=Ag a)
  (D:js p.op=false->TextAt w l lt) (A:js p.op=false->unB p.op=false->TextAt w r rt) :
  ua 144 #[coV p l r] w λe w'=>e=Ak (at0 w.1.size)/\CellsC w.1.size w'.1.size w' w.1.size p l r (qI p lt rt)/\Xb w w':=by
 have i:Xb w (w.alloc (Al #[I J p.op,l,r,I J p.K,Y (BS p.V),Y (BS p.h),Y ⟨#[]⟩] 102)):=uj.alloc ui _
 have m:=qd (vae (w.alloc (Al #[I J p.op,l,r,I J p.K,Y (BS p.V),Y (BS p.h),Y ⟨#[]⟩] 102)) w.1.size p l r
  ⟨F.alloc _,uc,uc,uc,uc,uc,uc,uc,C,H,G⟩ lt rt u q (λh=>(D h).below i) (λh K=>(A h K).below i))
 obtain⟨z,rfl⟩:=T;obtain⟨y,rfl⟩:=g;generalize ht:qI p lt rt=t;rw[ht]at m;unfold at0 at m;unfold at0 coV;go_enter func144,ntmps144
 go_wp2_with(go_at_call 197;refine be m λf d=>?_;have o:w.1.size<f.1.size:=(by have:=d.size;simp at this;omega);have R:Xc f w.1.size 0 (I J p.op):=((qk d).1 _ 0 uc).trans uc;have Q:Xc f w.1.size 1 (Ag z):=((qk d).1 _ 1 uc).trans uc;have P:Xc f w.1.size 2 (Ag y):=((qk d).1 _ 2 uc).trans uc;have O:Xc f w.1.size 3 (I J p.K):=((qk d).1 _ 3 uc).trans uc;have N:Xc f w.1.size 4 (Y (BS p.V)):=((qk d).1 _ 4 uc).trans uc;have M:Xc f w.1.size 5 (Y (BS p.h)):=((qk d).1 _ 5 uc).trans uc;have L:Xc f w.1.size 6 (Y ⟨#[]⟩):=((qk d).1 _ 6 uc).trans uc;have U:Xf f w.1.size:=(λj=>((qk d).2 _ j uc).trans uc);have S:=qd (qg i d))
 go_ret;refine⟨rfl,⟨ui,by simpa using o,by simpa using o,by simp[go_sem,R],by simp[go_sem,Q],by simp[go_sem,P],by simp[go_sem,O],by simp[go_sem,N],by simp[go_sem,M],by simp[go_sem,L]⟩, ?_⟩;exact S.setCell uc _
theorem qfi(j:js op=false)(h:unB op=false)(l r:tu):qI (qq op) l r=[40]++l++[32]++jw op++[32]++r++[41]:=by
 unfold js at j;unfold unB at h;simp only[ii]at j h;obtain⟨⟨⟨⟨a,b⟩,c⟩,d⟩,e⟩:=j;obtain⟨⟨f,g⟩,i⟩:=h;simp only[qI,qq,a,b,c,d,e,f,g,i];rfl
theorem CoAt.two{a:Ao}{x y:Co}(i:B<=a.1.size)(d:CellsC a.1.size w'.1.size w' a.1.size (qq op) vx vy (qI (qq op) (qt x) (qt y)))(f:Xb a w')(h:CoAt B a.1.size a vx x)(g:CoAt B a.1.size a vy y):
  CoAt B w'.1.size w' (at0 a.1.size) (.bin (qq op) x y):=
 ⟨a.1.size,vx,vy,rfl,⟨i,d.hi,d.within,d.c0,d.c1,d.c2,d.c3,d.c4,d.c5,d.c6⟩,h.below f,g.below f⟩
theorem CoAt.ptr{c:Co}(h:CoAt B E w v c):∃b,v=Ag (G ⟨b,0,O⟩):=by
 obtain⟨b,_,_,_,rfl,_⟩:=h.head;exact⟨b,rfl⟩
theorem qe4(op:Int)(q:B<=w.1.size)(o:LibOk w){x y:Co}{a:Nat}(f:CoAt B w.1.size w (Ag (G ⟨bx,0,O⟩)) x)(d:CoAt B w.1.size w (Ag (G ⟨a,0,O⟩)) y)(j:(qt x).length<=1000000000)(i:(qt y).length<=1000000000):
  ua 144 #[Ai #[I J op,Ag (G ⟨bx,0,O⟩),Ag (G ⟨a,0,O⟩),I J 0,Y ⟨#[]⟩,Y ⟨#[]⟩,Y ⟨#[]⟩]] w λe w'=>∃b,e=Ak (Ag (G ⟨b,0,O⟩))/\CoAt B w'.1.size w' (Ag (G ⟨b,0,O⟩)) (.bin (qq op) x y)/\Xb w w':=by
 have h:=pK w o (qq op) (Ag (G ⟨bx,0,O⟩)) (Ag (G ⟨a,0,O⟩)) (qt x) (qt y) (show Rng 0 from⟨ue,ue⟩) (bt _) (bt _) j i ⟨_,rfl⟩ ⟨_,rfl⟩ (λ_=>f.Q) (λ_ _=>d.Q);refine Calls.mono (show ua 144 #[Ai #[I J op,Ag (G ⟨bx,0,O⟩),Ag (G ⟨a,0,O⟩),I J 0,Y ⟨#[]⟩,Y ⟨#[]⟩,Y ⟨#[]⟩]] w _ from h) ?_;rintro e w'⟨rfl,m,g⟩;exact⟨w.1.size,rfl,CoAt.two q m g f d,g⟩
theorem jb(op:Int)(C:B<=w.1.size)(A:LibOk w){x y:Co}(o:CoAt B w.1.size w vx x)(m:CoAt B w.1.size w vy y)(z:(qt x).length<=1000000000)(u:(qt y).length<=1000000000):
  ua 140 #[I J op,vx,vy] w λe w'=>∃b,e=Ak (Ag (G ⟨b,0,O⟩))/\CoAt B w'.1.size w' (Ag (G ⟨b,0,O⟩)) (qp op x y)/\Xb w w':=by
 obtain⟨bx,rfl⟩:=o.ptr;obtain⟨D,rfl⟩:=m.ptr;obtain⟨i,g,L,N⟩:=o.Q;obtain⟨F,f,P,M⟩:=m.Q;obtain rfl:i=bx:=by injection g with g;injection g with g;injection g with g;exact g.symm
 obtain rfl:F=D:=by injection f with f;injection f with f;injection f with f;exact f.symm
 have H:Hid (∀d,Xb w d->ua 144 #[Ai #[I J op,Ag (G ⟨i,0,O⟩),Ag (G ⟨F,0,O⟩),I J 0,Y ⟨#[]⟩,Y ⟨#[]⟩,Y ⟨#[]⟩]] d λe w'=>∃b,e=Ak (Ag (G ⟨b,0,O⟩))/\CoAt B w'.1.size w' (Ag (G ⟨b,0,O⟩)) (.bin (qq op) x y)/\Xb d w'):=
  qd (λd a=>qe4 op (bs C a.size) (A.below a ui) (o.below a) (m.below a) z u)
 have K:Hid (∀d,Xb w d->ua 144 #[Ai #[I J op,Ag (G ⟨F,0,O⟩),Ag (G ⟨i,0,O⟩),I J 0,Y ⟨#[]⟩,Y ⟨#[]⟩,Y ⟨#[]⟩]] d λe w'=>∃b,e=Ak (Ag (G ⟨b,0,O⟩))/\CoAt B w'.1.size w' (Ag (G ⟨b,0,O⟩)) (.bin (qq op) y x)/\Xb d w'):=
  qd (λd a=>qe4 op (bs C a.size) (A.below a ui) (m.below a) (o.below a) u z)
 have Q:Op.bytesLess (BS (qt y)).toList (BS (qt x)).toList=Op.bytesLess (qt y) (qt x):=by rw[qP,qP]
 have j:Hid (∀n,Xb w (w.drewN n)):=qd (λn=>⟨rfl,rfl,rfl,ui,λ_ _=>rfl⟩);unfold qp;generalize Op.bytesLess (qt y) (qt x)=lt at *;clear o m z u A C g f
 cases he:xY op with
 | false=>
  rw[oo,ak ue];have r:Hid (∀w,ua 193 #[I J op] w λe w'=>e=Ak (Ah false)/\w'=w):=qd (λw=>he ▸ gE op w);go_enter func140,ntmps140
  go_wp2
  go_quiet ((go_at_call 193;exact ol (r _)))
  go_wp2_with(go_at_call 144;refine(H _ (j _)).mono ?_;rintro e w2⟨b,rfl,q,a⟩)
  go_ret;exact⟨b,rfl,q,qg (j _) a⟩
 | true=>
  rw[li];have r:Hid (∀w,ua 193 #[I J op] w λe w'=>e=Ak (Ah true)/\w'=w):=qd (λw=>he ▸ gE op w)
  cases lt with
  | false=>
   rw[ak ue];go_enter func140,ntmps140
   go_wp2
   go_quiet ((go_at_call 193;exact ol (r _)))
   go_wp2_with(go_at_call 144;refine(H _ (j _)).mono ?_;rintro e w2⟨b,rfl,q,a⟩)
   go_ret;exact⟨b,rfl,q,qg (j _) a⟩
  | true=>
   rw[bo rfl];go_enter func140,ntmps140
   go_wp2
   go_quiet ((go_at_call 193;exact ol (r _)))
   go_wp2_with(go_at_call 144;refine(K _ (j _)).mono ?_;rintro e w2⟨b,rfl,q,a⟩)
   go_ret;exact⟨b,rfl,q,qg (j _) a⟩
def uC:Co->Nat
 | .leaf _=>1
 | .un _ x=>uC x
 | .bin p x y=>if p.op==6||p.op==7 then uC x+uC y else 1
theorem qrj:∀c,1<=uC c:=by
 intro c
 induction c with
 | leaf p=>exact ui
 | un p x ih=>exact ih
 | bin p x y ihx ihy=>unfold uC;split<;>omega
theorem jN(op:Int)(x y:Co):uC (qp op x y)=if op==6||op==7 then uC x+uC y else 1:=by
 unfold qp
 split
 .show(if(op==6||op==7)=true then uC y+uC x else 1)=_
  rw[Nat.add_comm]
 rfl
theorem vi6:∀c,uC (vg c)=uC c:=by
 intro c
 induction c with
 | leaf p=>unfold vg;split;rfl;split<;>rfl
 | un p x ih=>unfold vg;split<;>rfl
 | bin p x y ihx ihy=>
  unfold vg
  by_cases h6:(p.op==6)=true
  .rw[bo h6,jN,ihx,ihy]
   show(if((7:Int)==6||(7:Int)==7)=true then _ else _)=if(p.op==6||p.op==7)=true then _ else _
   rw[h6];rfl
  rw[ak h6]
  by_cases h7:(p.op==7)=true
  .rw[bo h7,jN,ihx,ihy]
   show(if((6:Int)==6||(6:Int)==7)=true then _ else _)=if(p.op==6||p.op==7)=true then _ else _
   rw[h7,Bool.or_true];rfl
  rw[ak h7]
  have a:uC (.bin p x y)=1:=by
   show(if(p.op==6||p.op==7)=true then _ else _)=1;rw[ak];rw[mr.2 h6,mr.2 h7];decide
  by_cases O5:(p.op==10)=true
  .rw[bo O5,jN,a];rfl
  rw[ak O5]
  by_cases S3:(p.op==11)=true
  .rw[bo S3,jN,a];rfl
  rw[ak S3];rfl
theorem qN(op:Int)(d:js op=false)(a:unB op=false)(x y:Co):(qt (qp op x y)).length=(qt x).length+(qt y).length+4+(jw op).length:=by
 unfold qp
 split
 .show(qI (qq op) (qt y) (qt x)).length=_
  rw[qfi d a];simp;omega
 show(qI (qq op) (qt x) (qt y)).length=_;rw[qfi d a];simp;omega
def qrz(op:Int):Bool:=!js op&&!unB op
theorem jH{p:CP}(h:qrz p.op=true)(x y:Co):(qt (.bin p x y)).length=(qt x).length+(qt y).length+4+(jw p.op).length:=by
 show(qI p (qt x) (qt y)).length=_;unfold qrz js unB at h;simp only[dh,Bool.not_eq_true',ii]at h;obtain⟨⟨⟨⟨⟨a,b⟩,c⟩,d⟩,e⟩,⟨f,g⟩,i⟩:=h;simp only[qI,a,b,c,d,e,f,g,i];simp;omega
def WfC:Co->Prop
 | .leaf p=>js p.op=true
 | .un p x=>unB p.op=true/\WfC x
 | .bin p x y=>qrz p.op=true/\WfC x/\WfC y
theorem vO(h:qrz op=true){x y:Co}(d:WfC x)(a:WfC y):WfC (qp op x y):=by
 unfold qp
 split
 exact⟨h,a,d⟩;exact⟨h,d,a⟩
theorem vbk:∀c,WfC c->WfC (vg c):=by
 intro c
 induction c with
 | leaf p=>intro h;unfold vg;split;exact rfl;split;exact rfl;exact⟨rfl,h⟩
 | un p x ih=>intro h;unfold vg;split;exact h.2;exact⟨rfl,h⟩
 | bin p x y ihx ihy=>
  intro h;unfold vg
  split
  .exact vO rfl (ihx h.2.1) (ihy h.2.2)
  split
  .exact vO rfl (ihx h.2.1) (ihy h.2.2)
  split
  .exact vO rfl h.2.2 h.2.1
  split
  exact vO rfl h.2.2 h.2.1;exact⟨rfl,h⟩
theorem qbd(c:Co):(qt (.un (qq 5) c)).length=(qt c).length+6:=by
 show(qI (qq 5) (qt c) []).length=_;simp[qI,qq]
theorem zE:∀c,WfC c->(qt (vg c)).length+1<=(qt c).length+7 * uC c:=by
 intro c
 induction c with
 | leaf p=>
  intro _;unfold vg
  split
  .rename_i h;have:(qt (.leaf p)).length=4:=by show(qI p [] []).length=4;rw[qI,eq_of_beq h];rfl
   show 5+1<=_+7 * 1;omega
  split
  .show 4+1<=_+7 * 1;omega
  rw[qbd];show _<=_+7 * 1;omega
 | un p x ih=>
  intro a;have hp:=qrj x;unfold vg
  split
  .rename_i h
   simp only[dh,ew]at h;have:(qt (.un p x)).length=(qt x).length+6:=by show(qI p (qt x) []).length=_;simp[qI,h.1]
   show _<=_+7 * uC x;omega
  rw[qbd];show _<=_+7 * uC x;omega
 | bin p x y ihx ihy=>
  intro a;have i:=ihx a.2.1;have g:=ihy a.2.2;have d:=jH a.1 x y;unfold vg
  by_cases h6:(p.op==6)=true
  .rw[bo h6,qN 7 rfl rfl,d]
   have:uC (.bin p x y)=uC x+uC y:=by show(if(p.op==6||p.op==7)=true then _ else _)=_;rw[h6];rfl
   rw[this];have:(jw p.op).length=3:=by rw[eq_of_beq h6];rfl
   show _+_+4+2+1<=_;omega
  rw[ak h6]
  by_cases h7:(p.op==7)=true
  .rw[bo h7,qN 6 rfl rfl,d]
   have:uC (.bin p x y)=uC x+uC y:=by show(if(p.op==6||p.op==7)=true then _ else _)=_;rw[h7,Bool.or_true];rfl
   rw[this];have:(jw p.op).length=2:=by rw[eq_of_beq h7];rfl
   show _+_+4+3+1<=_;omega
  rw[ak h7]
  have f:uC (.bin p x y)=1:=by
   show(if(p.op==6||p.op==7)=true then _ else _)=1;rw[ak];rw[mr.2 h6,mr.2 h7];decide
  rw[f]
  by_cases O5:(p.op==10)=true
  .rw[bo O5,qN 11 rfl rfl,d]
   show _+_+4+2+1<=_;omega
  rw[ak O5]
  by_cases S3:(p.op==11)=true
  .rw[bo S3,qN 10 rfl rfl,d]
   show _+_+4+1+1<=_;omega
  rw[ak S3,qbd];omega
def pR(c:Co):Prop:=∀(B:Nat) (w:Ao) (v:Ap),B<=w.1.size->LibOk w->CoAt B w.1.size w v c ->
 Calls prog 142 #[v] w λe w'=>∃b,e=Ak (Ag (G ⟨b,0,O⟩))/\CoAt B w'.1.size w' (Ag (G ⟨b,0,O⟩)) (vg c)/\Below w.1.size w w'
theorem xx(p:CP)(hp:js p.op=true)(d:Rng p.K)(m:p.V.length<=1000000000)(j:p.h.length<=1000000000)(i:B<=w.1.size)(g:LibOk w):
  ua 144 #[Ai #[I J p.op,Ag O,Ag O,I J p.K,Y (BS p.V),Y (BS p.h),Y ⟨#[]⟩]] w λe w'=>∃b,e=Ak (Ag (G ⟨b,0,O⟩))/\CoAt B w'.1.size w' (Ag (G ⟨b,0,O⟩)) (.leaf p)/\Xb w w':=by
 refine Calls.mono (show ua 144 #[Ai #[I J p.op,Ag O,Ag O,I J p.K,Y (BS p.V),Y (BS p.h),Y ⟨#[]⟩]] w _ from pK w g p (Ag O) (Ag O) [] [] d m j (bt _) (bt _) ⟨_,rfl⟩ ⟨_,rfl⟩ (λh=>by rw[hp]at h;cases h) (λh=>by rw[hp]at h;cases h)) ?_;rintro e w'⟨rfl,a,f⟩;exact⟨w.1.size,rfl,⟨w.1.size,rfl,⟨i,a.hi,a.within,a.c0,a.c1,a.c2,a.c3,a.c4,a.c5,a.c6⟩⟩,f⟩
theorem pL(p:CP)(hp:unB p.op=true)(i:Rng p.K)(q:p.V.length<=1000000000)(o:p.h.length<=1000000000)(m:B<=w.1.size)(j:LibOk w){x:Co}(d:CoAt B w.1.size w (Ag (G ⟨bx,0,O⟩)) x)(g:(qt x).length<=1000000000):
  ua 144 #[Ai #[I J p.op,Ag (G ⟨bx,0,O⟩),Ag O,I J p.K,Y (BS p.V),Y (BS p.h),Y ⟨#[]⟩]] w λe w'=>∃b,e=Ak (Ag (G ⟨b,0,O⟩))/\CoAt B w'.1.size w' (Ag (G ⟨b,0,O⟩)) (.un p x)/\Xb w w':=by
 refine Calls.mono (show ua 144 #[Ai #[I J p.op,Ag (G ⟨bx,0,O⟩),Ag O,I J p.K,Y (BS p.V),Y (BS p.h),Y ⟨#[]⟩]] w _ from pK w j p (Ag (G ⟨bx,0,O⟩)) (Ag O) (qt x) [] i q o g (bt _) ⟨_,rfl⟩ ⟨_,rfl⟩ (λ_=>d.Q) (λ_ h=>by rw[hp]at h;cases h)) ?_;rintro e w'⟨rfl,a,f⟩;exact⟨w.1.size,rfl,⟨w.1.size,_,rfl,⟨m,a.hi,a.within,a.c0,a.c1,a.c2,a.c3,a.c4,a.c5,a.c6⟩,d.below f⟩,f⟩
theorem vd0:∀{a:List CRes} {fit:Bool},dem want pl a fit=O->fit=true:=by
 intro a
 induction a with
 | nil=>intro fit h;cases fit;cases h;rfl
 | cons r t ih=>
  intro fit h
  cases r with
  | err q=>cases h
  | ok c=>
   have:=ih (fit:=fit&&(c==want||c==0)) h;rw[dh]at this;exact this.1
theorem vcz:∀{d:List CRes} {fit:Bool},dem want pl d fit=O->∀r∈d,∃c,r=.ok c/\(c=want\/c=0):=by
 intro d
 induction d with
 | nil=>intro fit _ r a;cases a
 | cons r t ih=>
  intro fit h
  cases r with
  | err q=>cases h
  | ok c=>
   have g:dem want pl t (fit&&(c==want||c==0))=O:=h;have f:=vd0 g;rw[dh,ff,ew,ew]at f;intro r a;rcases eo.1 a with rfl|a;exact⟨c,rfl,f.2⟩;exact ih g r a
theorem qZ{d:Int}{a:List CRes}(h:zN want pl c a=.ok d):∀r∈a,∃c,r=.ok c/\(c=want\/c=0):=by
 unfold zN at h
 split at h
 rename_i hd;exact vcz hd;cases h
theorem pS{a b:CRes}(h:zM pl a b=.ok c):(∃c,a=.ok c)/\∃c,b=.ok c:=by
 cases a with
 | err q=>cases h
 | ok x=>
  cases b with
  | err q=>cases h
  | ok y=>exact⟨⟨x,rfl⟩,⟨y,rfl⟩⟩
def ArA:Ast->Prop
 | .leaf p=>p.op=0\/p.op=1
 | .un p x=>(p.op=14\/p.op=15)/\ArA x
 | .bin p x y=>16<=p.op/\p.op<=19/\ArA x/\ArA y
 | .tri _ _ _ _=>False
theorem qci:∀t c,ShA t->qy t=.ok c->(c=1\/c=0)->ArA t:=by
 intro t
 induction t with
 | leaf p=>
  intro c g f h;have f:qR p.op p.M []=.ok c:=f;have g:0<=p.op/\p.op<=4:=g;rcases(show p.op=0\/p.op=1\/p.op=2\/p.op=3\/p.op=4 by omega) with e|e|e|e|e
  .exact Am e
  .exact An e
  all_goals(rw[e]at f;injection f with f;omega)
 | un p x ih=>
  intro c g f h;have f:qR p.op p.M [qy x]=.ok c:=f;rcases g.1 with e|e|e|e|e|e
  .rw[e]at f
   have f:zN 3 p.M 3 [qy x]=.ok c:=f;exfalso;unfold zN at f
   split at f
   injection f with f;omega;cases f
  .rw[e]at f
   obtain⟨d,m,j⟩:=qZ (show zN 1 p.M 1 [qy x]=.ok c from f) (qy x) uc;exact⟨Am e,ih d g.2.2.2 m j⟩
  .rw[e]at f
   obtain⟨d,m,j⟩:=qZ (show zN 1 p.M 1 [qy x]=.ok c from f) (qy x) uc;exact⟨An e,ih d g.2.2.2 m j⟩
  all_goals(rw[e]at f;injection f with f;omega)
 | bin p x y ihx ihy=>
  intro c g f h;have f:qR p.op p.M [qy x,qy y]=.ok c:=f
  have i:∀w,zN w p.M 3 [qy x,qy y]=.ok c->False:=λw f=>by
   unfold zN at f
   split at f
   injection f with f;omega;cases f
  have q:zM p.M (qy x) (qy y)=.ok c->False:=λf=>by
   obtain⟨⟨a,C⟩,b,A⟩:=pS f;rw[C,A]at f;have f:(if(a != b&&a != 0&&b != 0)=true then CRes.err p.M else CRes.ok 3)=.ok c:=f
   split at f
   cases f;injection f with f;omega
  have o:zN 1 p.M 1 [qy x,qy y]=.ok c->ArA x/\ArA y:=λf=>by
   obtain⟨d,m,j⟩:=qZ f (qy x) uc;obtain⟨e,u,r⟩:=qZ f (qy y) uc;exact⟨ihx d g.2.1 m j,ihy e g.2.2 u r⟩
  rcases(show p.op=6\/p.op=7\/p.op=8\/p.op=9\/p.op=10\/p.op=11\/p.op=12\/p.op=13\/p.op=16\/p.op=17\/p.op=18\/p.op=19 by have:=g.1;omega) with e|e|e|e|e|e|e|e|e|e|e|e
  .rw[e]at f;exact absurd f (i 3)
  .rw[e]at f;exact absurd f (i 3)
  .rw[e]at f;exact absurd f q
  .rw[e]at f;exact absurd f q
  .rw[e]at f;exact absurd f (i 1)
  .rw[e]at f;exact absurd f (i 1)
  .rw[e]at f;exact absurd f (i 1)
  .rw[e]at f;exact absurd f (i 1)
  all_goals(rw[e]at f;exact⟨ub,ub,(o f).1,(o f).2⟩)
 | tri p x y z ihx ihy ihz=>
  intro c g f h;have f:qR p.op p.M [qy x,qy y,qy z]=.ok c:=f;rw[g.1]at f;have f:zN 1 p.M 3 [qy x,qy y,qy z]=.ok c:=f;exfalso;unfold zN at f
  split at f
  injection f with f;omega;cases f
theorem qa0(p:CP)(f:p.V.length<=200)(d:Rng p.K)(a:js p.op=true):(qt (.leaf p)).length<=402:=by
 show(qI p [] []).length<=402;have hq:=qa4 p.V;have g:=Lib.itoa_length_le p.K d.1 d.2;unfold js at a;simp only[ff,ew]at a;unfold qI;rcases a with(((e|e)|e)|e)|e
 .rw[e];show p.V.length<=402;omega
 .rw[e];show(Lib.itoa p.K).length<=402;omega
 .rw[e];show(qL p.V).length<=402;omega
 .rw[e];show 4<=402;omega
 rw[e];show 5<=402;omega
theorem qc7:(qt (kL 0)).length<=21:=Lib.itoa_length_le 0 ue ue
theorem qvb:∀t,ArA t->qi6 t->qia t->(qt (qj t)).length<=500 * ndA t:=by
 intro t
 induction t with
 | leaf p=>
  intro a f d;have:=qa0 (xU p) f.1 d (by unfold js;rcases a with e|e<;>simp[xU,e]);show(qt (.leaf (xU p))).length<=500 * 1;omega
 | un p x ih=>
  intro a f d;have h:=ih a.2 f.2 d.2;have o:(qt (kL 0)).length<=21:=qc7;have g:ndA (.un p x)=1+p.P.length+ndA x:=rfl;rcases a.1 with e|e;have:qj (.un p x)=qp 16 (kL 0) (qj x):=by rw[qj,e];rfl
  rw[this,qN 16 rfl rfl,g];have:(jw 16).length=1:=rfl;omega;have:qj (.un p x)=qp 17 (kL 0) (qj x):=by rw[qj,e];rfl
  rw[this,qN 17 rfl rfl,g];have:(jw 17).length=1:=rfl;omega
 | bin p x y ihx ihy=>
  intro a f d;obtain⟨A,u,m,j⟩:=a;have r:=ihx m f.2.1 d.2.1;have q:=ihy j f.2.2 d.2.2;have g:ndA (.bin p x y)=1+ndA x+ndA y:=rfl;have i:=qe1 p.op
  have:qj (.bin p x y)=qp p.op (qj x) (qj y):=by
   rw[qj,ak ud,ak ud,ak ud]
  rw[this,qN p.op (by unfold js;simp;omega) (by unfold unB;simp;omega),g];omega
 | tri p x y z ihx ihy ihz=>intro a;exact absurd a id
structure Bz(p:Pay):Prop where
 N:p.op=0->p.K=0/\p.h=[]/\yR p.V=true
 K:p.op=1->0<=p.K/\p.V=[]/\p.h=[]
 Q:p.op=2->p.K=0/\p.h=[]
 bare:p.op=3\/p.op=4\/p.op=5\/p.op=23->p.K=0/\p.V=[]/\p.h=[]
 like:p.op=22->p.K=0/\(p.h=[]\/p.h.length=1/\(zJ p.h p.V).isSome=true)
def BzA:Ast->Prop
 | .leaf p=>Bz p
 | .un p x=>Bz p/\BzA x
 | .bin p x y=>Bz p/\BzA x/\BzA y
 | .tri p x y z=>Bz p/\BzA x/\BzA y/\BzA z
theorem bz0(h:op≠0):Bz ⟨op,pl,0,[],[],[]⟩:=⟨λe=>absurd e h,λ_=>⟨rq _,rfl,rfl⟩,λ_=>⟨rfl,rfl⟩,λ_=>⟨rfl,rfl,rfl⟩,λ_=>⟨rfl,Am rfl⟩⟩
theorem viz{s:tu}(h:yR s=true):Bz ⟨0,pl,0,s,[],[]⟩:=by
 constructor<;>intro e<;>simp at e
 exact⟨rfl,rfl,h⟩
theorem vnv{n:Int}(h:0<=n):Bz ⟨1,pl,n,[],[],[]⟩:=by
 constructor<;>intro e<;>simp at e
 exact⟨h,rfl,rfl⟩
theorem vj0{s:tu}:Bz ⟨2,pl,0,s,[],[]⟩:=by
 constructor<;>intro e<;>simp at e
 exact⟨rfl,rfl⟩
theorem vcf:Bz ⟨21,pl,0,[],[],ts⟩:=by
 constructor<;>intro e<;>simp at e
theorem vr0{s e:tu}(h:e=[]\/e.length=1/\(zJ e s).isSome=true):Bz ⟨22,pl,0,s,e,[]⟩:=by
 constructor<;>intro e<;>simp at e
 exact⟨rfl,h⟩
theorem vku(k:Int):qef k≠0:=by
 unfold qef
 repeat' split
 all_goals decide
theorem qpi(p:UInt8->Bool):∀(l:tu) (n:Nat),n<=qA p l->qA p (l.take n)=n:=by
 intro l
 induction l with
 | nil=>intro n h;simp[qA]at h;subst h;rfl
 | cons c t ih=>
  intro n h
  cases n with
  | zero=>rfl
  | succ n=>
   unfold qA at h
   by_cases hc:p c=true
   rw[bo hc]at h;have:=ih n ub;simp[qA,hc,this];rw[ak hc]at h;omega
theorem vkj(h:(vh l).A=2):yR (vh l).V=true:=by
 cases l with
 | nil=>simp[vh,qi]at h
 | cons c t=>
  by_cases a:yH c=true
  have e:vh (c::t)=j9 (c::t):=by simp[vh,a]
  rw[e]at h |-
  by_cases hw:yf ((c::t).take (qB (c::t)))=2
  have d:j9 (c::t)=⟨2,0,(c::t).take (qB (c::t))⟩:=by unfold j9;rw[bo hw]
  rw[d];have f:qB (c::t)=qA kJ t+1:=by simp[qB,a]
  have g:qB ((c::t).take (qB (c::t)))=qB (c::t):=by
   rw[f,List.take_succ_cons];simp only[qB,a,if_true];rw[qpi kJ t _ ui]
  have i:=xh (c::t);unfold yR;simp only[g,hw,cw];rw[ot i];simp[f];have d:j9 (c::t)=qi (yf ((c::t).take (qB (c::t)))):=by unfold j9;rw[ak hw]
  rw[d]at h;exact absurd h hw;exfalso;have a:yH c=false:=by simpa using a
  by_cases hd:jj c=true
  have e:vh (c::t)=xN (c::t):=by simp[vh,a,hd]
  rw[e]at h;unfold xN at h
  split at h
  simp at h;simp[qi]at h;have hd:jj c=false:=by simpa using hd
  by_cases hq:(c==39)=true
  have e:vh (c::t)=vP (c::t):=by simp[vh,a,hd,hq]
  rw[e]at h;unfold vP at h
  split at h
  simp at h;simp[qi]at h;have hq:(c==39)=false:=by simpa using hq
  have e:vh (c::t)=qi (xG (c::t)):=by simp[vh,a,hd,hq]
  rw[e]at h;have h:xG (c::t)=2:=h;unfold xG at h
  split at h
  omega;unfold qgn at h
  repeat' split at h
  all_goals omega
theorem vpo:0<=(vh l).K:=by
 cases l with
 | nil=>simp[vh,qi]
 | cons c t=>
  have a:∀l,0<=(j9 l).K:=λl=>by unfold j9;split<;>simp[qi]
  have d:∀l,0<=(xN l).K:=λl=>by
   unfold xN
   split
   simp;simp[qi]
  have hq:∀l,0<=(vP l).K:=λl=>by unfold vP;split<;>simp[qi]
  show 0<=(if yH c then j9 (c::t) else if jj c then xN (c::t) else if c==39 then vP (c::t) else qi (xG (c::t))).K
  split
  exact a _
  split
  exact d _
  split
  exact hq _;exact rq _
def TkZ(k:Tk):Prop:=(k.A=2->yR k.V=true)/\0<=k.K
theorem vgn(s:tq)(st:St):TkZ (qh s st).tk:=by
 show TkZ (qQ _ _);unfold qQ
 split
 exact⟨vkj,vpo⟩;exact⟨λh=>by simp[qi]at h,by simp[qi]⟩
theorem vqz(H:s.size<=200):QC s BzA TkZ:=
 ⟨H,vgn s,λ_ h=>⟨λe=>viz (h.1 e),vnv h.2,vj0,bz0 ue,bz0 ue⟩,λ_ _ _ e h=>⟨bz0 ub,h⟩,λ_ _ _ a b=>⟨bz0 (vku _),a,b⟩,λ_ _ _ _ a b c=>⟨bz0 ue,a,b,c⟩,λ_ _ _ _ _ h=>⟨vcf,h⟩,λ_ _ _ _ _ e h=>⟨vr0 e,h⟩⟩
theorem qb0{t:Ast}{Q:Ast->Prop}{T:Tk->Prop}(c:s.size<=200->QC s Q T)(h:vq s=.ok t):Q t:=by
 unfold vq at h
 split at h
 .rename_i hs
  split at h
  cases h;rename_i a;unfold qmy at h
  repeat' split at h
  all_goals cases h
  exact((vhi (c hs) 12).2.2 _ _ _ ((c hs).tk _) a).1
 cases h
theorem qav{t:Ast}(h:vq s=.ok t):BzA t:=qb0 vqz h
theorem qnm(h:x∈Lib.compact zs):x∈zs:=by
 unfold Lib.compact Lib.compactUpTo at h;obtain⟨i,a,rfl⟩:=eg.1 h;have a:=ip.1 (ou.1 a).1;have:zs.toArray[i]! = zs[i]:=by simp[a]
 rw[this];exact fm _
theorem qco(zs:List tu):(Lib.compact zs).length<=zs.length:=by
 unfold Lib.compact Lib.compactUpTo;rw[cd];exact bs (List.length_filter_le _ _) (by rw[iu];exact ui)
theorem qs9(h:zs≠[]):Lib.compact zs≠[]:=by
 cases zs with
 | nil=>exact absurd rfl h
 | cons a r=>
  intro e;unfold Lib.compact Lib.compactUpTo at e;rw[List.map_eq_nil_iff]at e;have:0∈(List.range (a::r).length).filter (Lib.keeps (a::r).toArray):=ou.2 ⟨ip.2 uc,Lib.keeps_lt_one _ 0 ue⟩;rw[e]at this;cases this
theorem gD(h:x∈vo ts):x∈ts:=by
 unfold vo at h;exact(List.mem_mergeSort).1 (qnm h)
theorem qag(ts:List tu):(vo ts).length<=ts.length:=by
 unfold vo;exact bs (qco _) (by rw[List.length_mergeSort];exact ui)
theorem qcb(h:ts≠[]):vo ts≠[]:=by
 unfold vo;refine qs9 (λe=>h ?_);have:=congrArg List.length e;rw[List.length_mergeSort]at this;exact de this
theorem xy(t:tu)(h:t.length<=200):(qt (vi t)).length<=402:=by
 show(qL t).length<=402;have:=qa4 t;omega
theorem qdi(x:Co):∀(r:List tu) (f:Co),(∀t∈r,t.length<=200)->(qt (za x f r)).length<=(qt f).length+r.length * ((qt x).length+420):=by
 intro r
 induction r with
 | nil=>intro f _;show(qt f).length<=_;omega
 | cons t r ih=>
  intro f h;have d:=ih (qp 7 f (qp 8 x (vi t))) (λu a=>h u (fe _ a));rw[qN 7 rfl rfl,qN 8 rfl rfl]at d;have g:=xy t (h t ei);have j:(jw 7).length=2:=rfl;have i:(jw 8).length=1:=rfl;show(qt (za x (qp 7 f (qp 8 x (vi t))) r)).length<=_;rw[fk,Nat.succ_mul];omega
theorem vkx(x:Co):∀(r:List tu) (f:Co),uC (za x f r)=uC f+r.length:=by
 intro r
 induction r with
 | nil=>intro f;rfl
 | cons t r ih=>
  intro f;show uC (za x (qp 7 f (qp 8 x (vi t))) r)=_;rw[ih,jN,jN];show uC f+1+r.length=_;rw[fk];omega
theorem qqu{x:Co}(a:WfC x):∀(r:List tu) (f:Co),WfC f->WfC (za x f r):=by
 intro r
 induction r with
 | nil=>intro f h;exact h
 | cons t r ih=>intro f h;exact ih _ (vO rfl h (vO rfl a rfl))
theorem xt{x:Ast}(a:ShA x)(h:opA x=0):∃q,x=.leaf q/\q.op=0:=by
 cases x with
 | leaf q=>exact⟨q,rfl,h⟩
 | un p y=>have:=a.1;have h:p.op=0:=h;omega
 | bin p y z=>have:=a.1;have h:p.op=0:=h;omega
 | tri p y z u=>have:=a.1;have h:p.op=0:=h;omega
theorem vi2(a b:Nat)(k:Nat)(d:k<=3000):3000 * (a * a)+3000 * (b * b)+k<=3000 * ((1+a+b) * (1+a+b)):=by
 have:(1+a+b) * (1+a+b)=a * a+b * b+2 * (a * b)+2 * a+2 * b+1:=by
  simp only[Nat.add_mul,Nat.mul_add,Nat.one_mul,Nat.mul_one];have:=Nat.mul_comm b a;omega
 rw[this];omega
theorem qkh(a m:Nat)(k:Nat)(d:k<=3000+6000 * a):3000 * (a * a)+k<=3000 * ((1+m+a) * (1+m+a)):=by
 have g:(1+a) * (1+a)<=(1+m+a) * (1+m+a):=ri ub ub
 have f:(1+a) * (1+a)=a * a+2 * a+1:=by
  simp only[Nat.add_mul,Nat.mul_add,Nat.one_mul,Nat.mul_one];omega
 omega
structure Gd(t:Ast):Prop where
 len:(qt (qj t)).length<=3000 * (ndA t * ndA t)
 un:uC (qj t)<=ndA t
 wf:WfC (qj t)
theorem vhn:∀t,1<=ndA t:=by
 intro t;cases t<;>(unfold ndA;omega)
def GdA:Ast->Prop
 | .leaf p=>Gd (.leaf p)
 | .un p x=>Gd (.un p x)/\GdA x
 | .bin p x y=>Gd (.bin p x y)/\GdA x/\GdA y
 | .tri p x y z=>Gd (.tri p x y z)/\GdA x/\GdA y/\GdA z
theorem GdA.gd{t:Ast}(h:GdA t):Gd t:=by
 cases t with
 | leaf p=>exact h
 | un p x=>exact h.1
 | bin p x y=>exact h.1
 | tri p x y z=>exact h.1
theorem vjl(p:Pay)(a:ShA (.leaf p))(g:qi6 (.leaf p))(f:qia (.leaf p)):Gd (.leaf p):=by
 have d:js (xU p).op=true:=by
  have a:0<=p.op/\p.op<=4:=a;unfold js xU;simp only[ff,ew];omega
 refine⟨?_,ui,d⟩;have:=qa0 (xU p) g.1 f d;show(qt (.leaf (xU p))).length<=3000 * (1 * 1);omega
theorem qn9(i:qrz op=true){x y:Ast}(d:Gd x)(a:Gd y)(u v:Co)(f:(u=qj x/\v=qj y)\/(u=qj y/\v=qj x))(g:qj (.bin p x y)=qp op u v):Gd (.bin p x y):=by
 have o:js op=false/\unB op=false:=by
  unfold qrz at i;simpa using i
 have r:(qt u).length+(qt v).length=(qt (qj x)).length+(qt (qj y)).length:=by rcases f with⟨rfl,rfl⟩|⟨rfl,rfl⟩<;>omega
 have z:uC u+uC v=uC (qj x)+uC (qj y):=by rcases f with⟨rfl,rfl⟩|⟨rfl,rfl⟩<;>omega
 have j:WfC u/\WfC v:=by
  rcases f with⟨rfl,rfl⟩|⟨rfl,rfl⟩;exact⟨d.wf,a.wf⟩;exact⟨a.wf,d.wf⟩
 have q:=qe1 op;have F:=d.len;have D:=a.len;have C:=d.un;have A:=a.un;have m:ndA (.bin p x y)=1+ndA x+ndA y:=rfl;refine⟨?_, ?_, ?_⟩;rw[g,qN op o.1 o.2,m];have:=vi2 (ndA x) (ndA y) 7 ue;omega;rw[g,jN,m]
 split<;>omega
 rw[g];exact vO i j.1 j.2
theorem vdl:∀t,ShA t->qi6 t->qia t->BqA t->(∃c,qy t=.ok c)->GdA t:=by
 intro t
 induction t with
 | leaf p=>intro i o A _ _;exact vjl p i o A
 | un p x ih=>
  intro i o A hq f;obtain⟨c,f⟩:=f;have f:qR p.op p.M [qy x]=.ok c:=f
  have oO:∃d,qy x=.ok d:=by
   rcases i.1 with e|e|e|e|e|e
   .rw[e]at f
    obtain⟨d,D,_⟩:=qZ (show zN 3 p.M 3 [qy x]=.ok c from f) (qy x) uc;exact⟨d,D⟩
   .rw[e]at f
    obtain⟨d,D,_⟩:=qZ (show zN 1 p.M 1 [qy x]=.ok c from f) (qy x) uc;exact⟨d,D⟩
   .rw[e]at f
    obtain⟨d,D,_⟩:=qZ (show zN 1 p.M 1 [qy x]=.ok c from f) (qy x) uc;exact⟨d,D⟩
   all_goals
    obtain⟨q,rfl,O⟩:=xt i.2.2.2 (i.2.2.1 ub);exact⟨0,by show qR q.op q.M []=.ok 0;rw[O];rfl⟩
  have F:=ih i.2.2.2 o.2 A.2 hq.2 oO;refine⟨?_,F⟩;have j:=F.gd;have D:=j.len;have h2:=j.un;have W:=vhn x;have m:ndA (.un p x)=1+p.P.length+ndA x:=rfl;have K:=qc7;rcases i.1 with e|e|e|e|e|e;have g:qj (.un p x)=vg (qj x):=by rw[qj,e];rfl
  have J:=zE (qj x) j.wf;refine⟨?_,by rw[g,vi6,m];omega,by rw[g];exact vbk _ j.wf⟩;rw[g,m];have:=qkh (ndA x) p.P.length (7 * ndA x) ub;omega
  .have g:qj (.un p x)=qp 16 (kL 0) (qj x):=by rw[qj,e];rfl
   have MC:(jw 16).length=1:=rfl;refine⟨?_,by rw[g,jN,m];show 1<=_;omega,by rw[g];exact vO rfl rfl j.wf⟩;rw[g,qN 16 rfl rfl,m];have:=qkh (ndA x) p.P.length 30 ub;omega
  .have g:qj (.un p x)=qp 17 (kL 0) (qj x):=by rw[qj,e];rfl
   have MB:(jw 17).length=1:=rfl;refine⟨?_,by rw[g,jN,m];show 1<=_;omega,by rw[g];exact vO rfl rfl j.wf⟩;rw[g,qN 17 rfl rfl,m];have:=qkh (ndA x) p.P.length 30 ub;omega
  .have g:qj (.un p x)=vI (qj x) p.P:=by rw[qj,e];rfl
   have M:=qcb (i.2.1 e);have X:=qag p.P;have N:∀u∈vo p.P,u.length<=200:=λu I=>hq.1.2 u (gD I)
   obtain⟨q,rfl,O⟩:=xt i.2.2.2 (i.2.2.1 ub);have hlx:(qt (qj (.leaf q))).length<=402:=qa0 (xU q) o.2.1 A.2 (by unfold js;simp[xU,O])
   cases hsort:vo p.P with
   | nil=>exact absurd hsort M
   | cons u r=>
    rw[hsort]at N X;have P:qj (.un p (.leaf q))=za (qj (.leaf q)) (qp 8 (qj (.leaf q)) (vi u)) r:=by rw[g,vI,hsort]
    have BO:=qdi (qj (.leaf q)) r (qp 8 (qj (.leaf q)) (vi u)) (λy G=>N y (fe _ G));rw[qN 8 rfl rfl]at BO;have V3:=xy u (N u ei);have e8:(jw 8).length=1:=rfl;rw[fk]at X;refine⟨?_, ?_, ?_⟩;rw[P,m];have U:r.length * ((qt (qj (.leaf q))).length+420)<=r.length * 822:=si _ ub;have L:(1+p.P.length+ndA (.leaf q)) * 1<=(1+p.P.length+ndA (.leaf q)) * (1+p.P.length+ndA (.leaf q)):=si _ ub;omega
    .rw[P,vkx,jN,m]
     show 1+_<=_;omega
    rw[P];exact qqu j.wf _ _ (vO rfl j.wf rfl)
  .have g:qj (.un p x)=.un (xU p) (qj x):=by rw[qj,e];rfl
   have J:(qt (.un (xU p) (qj x))).length<=(qt (qj x)).length+830:=by
    show(qI (xU p) (qt (qj x)) []).length<=_;have a:=qa4 p.V;have b:=qa4 p.h;have c1:=o.1.1;have c2:=hq.1.1;have d:(qi4 p.h).length<=8+(qL p.h).length:=by unfold qi4;split<;>simp<;>omega
    rw[qI];simp only[xU,e];simp;omega
   refine⟨?_,by rw[g,m];show uC (qj x)<=_;omega,by rw[g];exact⟨by unfold unB;simp[xU,e],j.wf⟩⟩;rw[g,m];have:=qkh (ndA x) p.P.length 830 ub;omega
  have g:qj (.un p x)=.un (xU p) (qj x):=by rw[qj,e];rfl
  have J:(qt (.un (xU p) (qj x))).length=(qt (qj x)).length+10:=by
   show(qI (xU p) (qt (qj x)) []).length=_;rw[qI];simp only[xU,e];simp
  refine⟨?_,by rw[g,m];show uC (qj x)<=_;omega,by rw[g];exact⟨by unfold unB;simp[xU,e],j.wf⟩⟩;rw[g,m];have:=qkh (ndA x) p.P.length 10 ub;omega
 | bin p x y ihx ihy=>
  intro i o A hq f;obtain⟨c,f⟩:=f;have f:qR p.op p.M [qy x,qy y]=.ok c:=f
  have Y:(∃d,qy x=.ok d)/\∃d,qy y=.ok d:=by
   have C:∀w k,zN w p.M k [qy x,qy y]=.ok c->(∃d,qy x=.ok d)/\∃d,qy y=.ok d:=λw k h=>by
    obtain⟨d,D,_⟩:=qZ h (qy x) uc;obtain⟨e,W,_⟩:=qZ h (qy y) uc;exact⟨⟨d,D⟩,⟨e,W⟩⟩
   rcases(show p.op=6\/p.op=7\/p.op=8\/p.op=9\/p.op=10\/p.op=11\/p.op=12\/p.op=13\/p.op=16\/p.op=17\/p.op=18\/p.op=19 by have:=i.1;omega) with e|e|e|e|e|e|e|e|e|e|e|e<;>rw[e]at f
   exact C 3 3 f;exact C 3 3 f
   .exact pS (show zM p.M (qy x) (qy y)=.ok c from f)
   .exact pS (show zM p.M (qy x) (qy y)=.ok c from f)
   exact C 1 3 f;exact C 1 3 f;exact C 1 3 f;exact C 1 3 f;exact C 1 1 f;exact C 1 1 f;exact C 1 1 f;exact C 1 1 f
  have F:=ihx i.2.1 o.2.1 A.2.1 hq.2.1 Y.1;have G:=ihy i.2.2 o.2.2 A.2.2 hq.2.2 Y.2;refine⟨?_,F,G⟩;have j:=F.gd;have H:=G.gd
  by_cases F6:p.op=12
  .exact qn9 (op:=10) rfl j H (qj y) (qj x) (An ⟨rfl,rfl⟩) (by rw[qj,F6];rfl)
  by_cases T4:p.op=13
  .exact qn9 (op:=11) rfl j H (qj y) (qj x) (An ⟨rfl,rfl⟩) (by rw[qj,T4];rfl)
  by_cases h9:p.op=9
  have g:qj (.bin p x y)=vg (qp 8 (qj x) (qj y)):=by rw[qj,h9];rfl
  have T:WfC (qp 8 (qj x) (qj y)):=vO rfl j.wf H.wf;have J:=zE _ T;have I:uC (qp 8 (qj x) (qj y))=1:=by rw[jN];rfl
  rw[I,qN 8 rfl rfl]at J;have e8:(jw 8).length=1:=rfl;have D:=j.len;have h2:=H.len;have m:ndA (.bin p x y)=1+ndA x+ndA y:=rfl;refine⟨?_,by rw[g,vi6,I,m];omega,by rw[g];exact vbk _ T⟩;rw[g,m];have:=vi2 (ndA x) (ndA y) 20 ue;omega;refine qn9 (op:=p.op) ?_ j H (qj x) (qj y) (Am ⟨rfl,rfl⟩) (by rw[qj,ak (by simpa using F6),ak (by simpa using T4),ak (by simpa using h9)]);have:=i.1;unfold qrz js unB;simp only[dh,Bool.not_eq_true',ii,bh];omega
 | tri p x y z ihx ihy ihz=>
  intro i o A hq f;obtain⟨c,f⟩:=f;have f:qR p.op p.M [qy x,qy y,qy z]=.ok c:=f;rw[i.1]at f;have f:zN 1 p.M 3 [qy x,qy y,qy z]=.ok c:=f;obtain⟨d1,S,x2⟩:=qZ f (qy x) uc;obtain⟨d2,R,y2⟩:=qZ f (qy y) uc;obtain⟨d3,Q,Z⟩:=qZ f (qy z) uc;have F:=ihx i.2.1 o.2.1 A.2.1 hq.2.1 ⟨_,S⟩;have G:=ihy i.2.2.1 o.2.2.1 A.2.2.1 hq.2.2.1 ⟨_,R⟩;have K:=ihz i.2.2.2 o.2.2.2 A.2.2.2 hq.2.2.2 ⟨_,Q⟩;refine⟨?_,F,G,K⟩;have ax:=qvb x (qci x d1 i.2.1 S x2) o.2.1 A.2.1;have ay:=qvb y (qci y d2 i.2.2.1 R y2) o.2.2.1 A.2.2.1;have az:=qvb z (qci z d3 i.2.2.2 Q Z) o.2.2.2 A.2.2.2;have j:=F.gd.wf;have H:=G.gd.wf;have gz:=K.gd.wf;have g:qj (.tri p x y z)=qp 6 (qp 11 (qj y) (qj x)) (qp 11 (qj x) (qj z)):=rfl;have m:ndA (.tri p x y z)=1+ndA x+ndA y+ndA z:=rfl;have px:=vhn x;refine⟨?_,by rw[g,jN,jN,jN,m];show 1+1<=_;omega,by rw[g];exact vO rfl (vO rfl H j) (vO rfl j gz)⟩;rw[g,qN 6 rfl rfl,qN 11 rfl rfl,qN 11 rfl rfl,m];have e6:(jw 6).length=3:=rfl;have GV:(jw 11).length=2:=rfl;have L:(1+ndA x+ndA y+ndA z) * 1<=(1+ndA x+ndA y+ndA z) * (1+ndA x+ndA y+ndA z):=si _ ub;omega
theorem yO{t:Ast}(h:vq s=.ok t):GdA t/\ndA t<=200/\ShA t/\qia t/\qi6 t/\BqA t:=by
 have a:=kC h;have d:=qb0 vhp h;have g:=qb0 vh9 h;have hq:=qb0 vqx h;refine⟨vdl t a.1 g d hq ?_,a.2,a.1,d,g,hq⟩;unfold vq at h
 split at h
 split at h
 cases h;unfold qmy at h
 split at h
 split at h
 rename_i f;cases h
 cases hc:qy t with
 | err q=>rw[hc]at f;cases f
 | ok c=>exact⟨c,rfl⟩
 cases h;cases h;cases h
structure Tm where
 op:Nat
 left:Nat
 right:Nat
 K:Int
 V:List UInt8
 h:List UInt8
def Tm.bare(op:Nat):Tm:=⟨op,0,0,0,[],[]⟩
def gG(t:Tm):List Ap:=[I J t.op,I J t.left,I J t.right,I J t.K,Y (BS t.V),Y (BS t.h)]
def tmV(t:Tm):Ap:=Ai #[I J t.op,I J t.left,I J t.right,I J t.K,Y (BS t.V),Y (BS t.h)]
structure TmAt(w:Ao)(b:Nat)(t:Tm):Prop where
 lt:b<w.1.size
 c0:w.cell? ⟨b,0,O⟩=G (I J t.op)
 c1:w.cell? ⟨b,1,O⟩=G (I J t.left)
 c2:w.cell? ⟨b,2,O⟩=G (I J t.right)
 c3:w.cell? ⟨b,3,O⟩=G (I J t.K)
 c4:w.cell? ⟨b,4,O⟩=G (Y (BS t.V))
 c5:w.cell? ⟨b,5,O⟩=G (Y (BS t.h))
 fz:∀j,w.frozen? ⟨b,j,O⟩=false
theorem TmAt.same{t:Tm}(h:TmAt w b t)(g:b<w'.1.size)(f:w'.1[b]?=w.1[b]?):TmAt w' b t:=by
 have d:∀j,w'.cell? ⟨b,j,O⟩=w.cell? ⟨b,j,O⟩:=λj=>aw (w:=w) (w':=w') (a:=⟨b,j,O⟩) f
 have i:∀j,w'.frozen? ⟨b,j,O⟩=w.frozen? ⟨b,j,O⟩:=λj=>cn (w:=w) (w':=w') (a:=⟨b,j,O⟩) f
 exact⟨g,(d 0).trans h.c0,(d 1).trans h.c1,(d 2).trans h.c2,(d 3).trans h.c3,(d 4).trans h.c4,(d 5).trans h.c5,λj=>(i j).trans (h.fz j)⟩
theorem TmAt.new(w:Ao)(n:Nat)(ty:TypeId):TmAt (w.alloc (Al #[I J n,I J 0,I J 0,I J 0,Y ⟨#[]⟩,Y ⟨#[]⟩] ty)) w.1.size (.bare n):=by
 refine⟨uc, ?_, ?_, ?_, ?_, ?_, ?_,λj=>?_⟩<;>simp[go_sem,Tm.bare]<;>rfl
theorem TmAt.left'{t:Tm}(h:TmAt w b t)(n:Nat):TmAt (w.setCell ⟨b,1,O⟩ (I J n)) b { t with left:=n }:=by
 obtain⟨i,c0,g,f,d,c4,a,fz⟩:=h;exact⟨ud,by simp[go_sem,c0],by simp[go_sem,g],by simp[go_sem,f],by simp[go_sem,d],by simp[go_sem,c4],by simp[go_sem,a],λj=>by simp[go_sem,fz]⟩
theorem TmAt.right'{t:Tm}(h:TmAt w b t)(n:Nat):TmAt (w.setCell ⟨b,2,O⟩ (I J n)) b { t with right:=n }:=by
 obtain⟨i,c0,g,f,d,c4,a,fz⟩:=h;exact⟨ud,by simp[go_sem,c0],by simp[go_sem,g],by simp[go_sem,f],by simp[go_sem,d],by simp[go_sem,c4],by simp[go_sem,a],λj=>by simp[go_sem,fz]⟩
theorem TmAt.esc'{t:Tm}(h:TmAt w b t)(l:tu):TmAt (w.setCell ⟨b,5,O⟩ (Y (BS l))) b { t with h:=l }:=by
 obtain⟨i,c0,g,f,d,c4,a,fz⟩:=h;exact⟨ud,by simp[go_sem,c0],by simp[go_sem,g],by simp[go_sem,f],by simp[go_sem,d],by simp[go_sem,c4],by simp[go_sem,a],λj=>by simp[go_sem,fz]⟩
theorem TmAt.full{o:Tm}(h:TmAt w b o)(t:Tm){m i g f d a:Ap}(A:m=I J t.op)(z:i=I J t.left)(y:g=I J t.right)(u:f=I J t.K)(r:d=Y (BS t.V))(q:a=Y (BS t.h)):
  TmAt ((((((w.setCell ⟨b,0,O⟩ m).setCell ⟨b,1,O⟩ i).setCell ⟨b,2,O⟩ g).setCell ⟨b,3,O⟩ f).setCell ⟨b,4,O⟩ d).setCell ⟨b,5,O⟩ a) b t:=by
 subst A z y u r q;obtain⟨H,c0,G,F,D,c4,C,fz⟩:=h;exact⟨ud,by simp[go_sem,c0],by simp[go_sem,G],by simp[go_sem,F],by simp[go_sem,D],by simp[go_sem,c4],by simp[go_sem,C],λj=>by simp[go_sem,fz]⟩
def kD(ts:List Tm):List Ap:=ts.flatMap gG
def yp(l:List Nat):List Ap:=l.map λn:Nat=>I J (n:Int)
theorem qx1:(prog.info? 187).map (λi=>(i.zero,i.size,i.bytes))=G (G (Ai #[I J 0,I J 0,I J 0,I J 0,Y ⟨#[]⟩,Y ⟨#[]⟩]),6,64):=uh
theorem pX:(prog.info? 3).map (λi=>(i.zero,i.size,i.bytes))=G (G (I J 0),1,8):=uh
def TsAt(w:Ao)(base:Nat)(v:Ap)(ts:List Tm):Prop:=w.ownsRow base 187 6 v ts.length (kD ts)
def IsAt(w:Ao)(base:Nat)(v:Ap)(l:List Nat):Prop:=w.ownsRow base 3 1 v l.length (yp l)
theorem TsAt.nil(w:Ao)(base:Nat):TsAt w base (C O 0 0) []:=⟨rfl,Am ⟨rfl,rfl⟩⟩
theorem IsAt.nil(w:Ao)(base:Nat):IsAt w base (C O 0 0) []:=⟨rfl,Am ⟨rfl,rfl⟩⟩
theorem qm{e:Nat}(h:w.ownsRow base e size v n xs)(d:∀g,v.ownBlock=G g->w'.1[g]?=w.1[g]?):w'.ownsRow base e size v n xs:=by
 refine⟨h.1, ?_⟩;rcases h.2 with a|⟨g,cap,cur,rfl,f,i,rest⟩;exact Am a;exact An ⟨g,cap,cur,rfl,f,(d g rfl).trans i,rest⟩
theorem qkm{ts:List Tm}{i:Nat}{t:Tm}(h:ts[i]?=G t){j:Nat}{u:Ap}(a:(gG t)[j]?=G u):(kD ts)[i * 6+j]?=G u:=by
 have d:j<6:=by have:=(aj.1 a).1;simpa [gG]using this
 induction ts generalizing i with
 | nil=>simp at h
 | cons t' ts ih=>
  rw[kD,dp,<-kD]
  cases i with
  | zero=>
   simp at h;subst h;rw[cg (by show _<6;omega),tg,ee];exact a
  | succ i=>
   rw[da (by show 6<=_;omega),show(i+1) * 6+j - (gG t').length=i * 6+j by show _ - 6=_;omega];exact ih (by simpa using h)
structure FitsT(pl:Nat)(t:Tm):Prop where
 op:t.op<=23
 K:Rng t.K
 V:t.V.length<=200
 h:t.h.length<=1
 sides:5<=t.op->t.left<pl/\t.right<pl
structure Prg(ts:List Tm)(rs:List Nat):Prop where
 terms:ts.length<=80
 roots:rs.length<=8
 fits:∀i t,ts[i]?=G t->FitsT i t
 below:∀r∈rs,r<ts.length
def kH(ats:Array TypeId)(ty:TypeId)(args:Array Ap):Sem Ap:=Builtin.append_ ats ty args
theorem vsk(ats:Array TypeId)(ty:TypeId)(args:Array Ap):Builtin.append_ ats ty args=kH ats ty args:=rfl
structure ProgAt(w:Ao)(pb o:Nat)(ts:List Tm)(rs:List Nat):Prop where
 lt:pb<w.1.size
 c0:∃tv base,w.cell? ⟨pb,o,O⟩=G tv/\TsAt w base tv ts
 c1:∃rv base,w.cell? ⟨pb,o+1,O⟩=G rv/\IsAt w base rv rs
theorem qum(a:Option Addr)(n cap:Nat)(d:8<n)(f:n<=140737488355328)(w:Ao):
  ut 50 #[C a n cap] w (Ah false):=by
 go_enter func50,ntmps50
 go_wp2
 go_ret;exact⟨rfl,uj⟩
theorem vbj(b off cap:Nat)(ps:List Pr)(w:Ao)(dA:ps.length<=cap)(dE:ps.length<=140737488355328)(aL:qv0 ps)(hw:EvAt w b off ps)(A1:b<w.1.size)(h8:ps.length<=8)(E9:ym ps=false):
  ua 50 #[C (G ⟨b,off,O⟩) ps.length cap] w λe w'=>e=Ak (Ah false)/\Xb w w':=by
 have HNO:=qd E9;clear E9;go_enter func50,ntmps50
 go_wp2_with fail
 go_loopw [3,4,10] (λ_ _ i wr=>∃k:Nat,k<=ps.length/\i=I J k/\Hid (∀j,j<k->qeb ps j=true)/\Xb w wr) (λ_ _ i _=>ps.length - (intOf i).toNat)
 case atStart=>exact⟨0,bt _,rfl,qd (λj hj=>absurd hj ub),uj⟩
 case round=>
  obtain⟨k,hk,rfl,hh,hb⟩:=hrel
  by_cases J9:k<ps.length
  .obtain⟨p,hp⟩:∃p,ps[k]?=G p:=⟨_,ag J9⟩
   have fL:=hw.below hb A1;have dV:b<wr.1.size:=aq A1 hb.size;obtain⟨h1,h2,h3,h4⟩:=fL k p hp;obtain⟨U3,S5⟩:=aL p (bg hp);have E9:qeb ps k=(jI p.N&&gY p.val&&!qi5 (ps.take k) p.N):=by unfold qeb;rw[hp]
   have V3:(ps.take k).length=k:=by rw[cw];omega
   have iQ:=qd (fL.take k);have HL:=qd V3;clear hp fL V3
   cases hn:jI p.N with
   | false=>
    have HN:=qd hn;clear hn E9
    go_wp2_with fail
    first | go_region_with (first | (go_at_call 85; refine (zG _ (by exact U3) _).mono ?_; rintro e w1 ⟨rfl, A0⟩; rw [show jI (BS p.N).data.toList = false from q9 HN]; obtain ⟨C9, G8⟩ := qk A0; have B8 : wr.1.size < w1.1.size := (by have := A0.size; simp at this; omega); have I1 : Xb w w1 := qg (j4 hb _).drew A0)) | fail "no region"
    all_goals(go_wp2_with fail)
    all_goals(go_ret;exact⟨rfl,I1⟩)
   | true=>
    have HN:=qd hn
    cases hv:gY p.val with
    | false=>
     have HV:=qd hv;clear hn hv E9
     go_wp2_with fail
     first | go_region_with (first | (go_at_call 85; refine (zG _ (by exact U3) _).mono ?_; rintro e w1 ⟨rfl, A0⟩; rw [show jI (BS p.N).data.toList = true from q9 HN]; obtain ⟨C9, G8⟩ := qk A0; have B8 : wr.1.size < w1.1.size := (by have := A0.size; simp at this; omega); have I1 : Xb w w1 := qg (j4 hb _).drew A0) | (go_at_call 86; refine (xm p.val S5 _).mono ?_; rintro e w2 ⟨rfl, A3⟩; rw [q9 HV]; obtain ⟨K7, L8⟩ := qk A3; have D4 : wr.1.size < w2.1.size := (by have := A3.size; omega); have b8 : Xb w w2 := qg I1 A3)) | fail "no region"
     all_goals(go_wp2_with fail)
     all_goals(go_ret;exact⟨rfl,b8⟩)
    | true=>
     have HV:=qd hv
     cases hx:qi5 (ps.take k) p.N with
     | true=>
      have HH:=qd hx;clear hn hv hx E9
      go_wp2_with fail
      first | go_region_with (first | (go_at_call 85; refine (zG _ (by exact U3) _).mono ?_; rintro e w1 ⟨rfl, A0⟩; rw [show jI (BS p.N).data.toList = true from q9 HN]; obtain ⟨C9, G8⟩ := qk A0; have B8 : wr.1.size < w1.1.size := (by have := A0.size; simp at this; omega); have I1 : Xb w w1 := qg (j4 hb _).drew A0) | (go_at_call 86; refine (xm p.val S5 _).mono ?_; rintro e w2 ⟨rfl, A3⟩; rw [q9 HV]; obtain ⟨K7, L8⟩ := qk A3; have D4 : wr.1.size < w2.1.size := (by have := A3.size; omega); have b8 : Xb w w2 := qg I1 A3) | (go_at_call 87; refine (vjo HL cap (BS p.N) _ ub (by exact iQ.later rfl dV A0 A3) ub).mono ?_; rintro e w3 ⟨rfl, D5⟩; rw [show qi5 (ps.take k) (BS p.N).data.toList = true from q9 HH]; have oY : Xb w w3 := qg b8 D5)) | fail "no region"
      all_goals(go_wp2_with fail)
      all_goals(go_ret;exact⟨rfl,oY⟩)
     | false=>
      have HH:=qd hx
      have XQ:Hid (∀j,j<k+1->qeb ps j=true):=qd (λj hj=>by
       by_cases hjk:j<k
       .exact q9 hh j hjk
       .have:j=k:=ub
        rw[this,E9,hn,hv,hx];rfl)
      clear hn hv hx E9
      go_wp2_with fail
      first | go_region_with (first | (go_at_call 85; refine (zG _ (by exact U3) _).mono ?_; rintro e w1 ⟨rfl, A0⟩; rw [show jI (BS p.N).data.toList = true from q9 HN]; obtain ⟨C9, G8⟩ := qk A0; have B8 : wr.1.size < w1.1.size := (by have := A0.size; simp at this; omega); have I1 : Xb w w1 := qg (j4 hb _).drew A0) | (go_at_call 86; refine (xm p.val S5 _).mono ?_; rintro e w2 ⟨rfl, A3⟩; rw [q9 HV]; obtain ⟨K7, L8⟩ := qk A3; have D4 : wr.1.size < w2.1.size := (by have := A3.size; omega); have b8 : Xb w w2 := qg I1 A3) | (go_at_call 87; refine (vjo HL cap (BS p.N) _ ub (by exact iQ.later rfl dV A0 A3) ub).mono ?_; rintro e w3 ⟨rfl, D5⟩; rw [show qi5 (ps.take k) (BS p.N).data.toList = false from q9 HH]; have oY : Xb w w3 := qg b8 D5)) | fail "no region"
      all_goals(go_wp2_with fail)
      all_goals exact⟨⟨k+1,ub,by go_num,XQ,oY⟩,by simp[intOf];omega⟩
  .have Z0:k=ps.length:=ub
   have:=qip h8 (λj hj=>q9 hh j ub);rw[q9 HNO]at this;cases this
theorem qn0(b off cap:Nat)(ps:List Pr)(w:Ao)(f:ps.length<=cap)(a:ps.length<=140737488355328)(g:qv0 ps)(d:EvAt w b off ps)(i:b<w.1.size):
  ut 50 #[C (G ⟨b,off,O⟩) ps.length cap] w (Ah (ym ps)):=by
 cases E9:ym ps with
 | true=>exact qul b off cap ps w f a g d i E9
 | false=>
  by_cases h8:ps.length<=8
  exact vbj b off cap ps w f a g d i h8 E9;exact qum _ _ cap ub a w
theorem qpv(a:Option Addr)(cap:Nat)(w:Ao):
  ut 50 #[C a 0 cap] w (Ah true):=by
 go_enter func50,ntmps50
 go_wp2
 go_loopw [3,4,10] (λ_ _ i wr=>i=I J 0/\wr=w) (λ_ _ _ _=>0)
 exact⟨rfl,rfl⟩;obtain⟨rfl,rfl⟩:=hrel
 go_wp2
 go_ret;exact⟨rfl,uj⟩
section
open Go.RowKit Go.Shelf Go.Proofs.Tryz
attribute [local go_sem] Oper.semAt_some
def qam(ts:List (List UInt8))(k:Nat):List (List UInt8):=(List.range k).map λj=>ts[j]?.getD []
theorem qps(ts:List tu)(k:Nat):qam ts (k+1)=qam ts k++[ts[k]?.getD []]:=by simp[qam,List.range_succ]
theorem qan(ts:List tu)(k:Nat):(qam ts k).length=k:=by simp[qam]
theorem qui(ts:List tu):qam ts ts.length=ts:=by
 apply List.ext_getElem;simp[qam];intro i d a;simp[qam,a]
theorem qup(n:Nat)(N:1<=n)(l A n₀ b cap:Nat)(ts:List tu)(M:ts.length<=1000)(F:b<n₀)(d y:List tu->Ao->Prop)
  (u:∀pre x W,d pre W->pre.length<ts.length->YieldAt Fence.wide (n - 1) prog l #[Y (BS x)] W λe W'=>
   (e=Ak (Ah true)/\d (pre++[x]) W'/\Below n₀ W W')\/(e=Ak (Ah false)/\y (pre++[x]) W'))
  (W:Ao) (m:Xc W A 0 (C (G ⟨b,0,O⟩) ts.length cap)) (r:∀j,j<ts.length->Xc W b j (Y (BS (ts[j]?.getD [])))) (H:d [] W) :
  CallsIn Fence.wide n prog 221 #[.func (.yield l) #[] #[],Ag (G ⟨A,0,O⟩)] W λe W'=>(∃v,e=Ak v) /\
   ((∃ys,ys=ts/\d ys W')\/(∃pre,pre.length<=ts.length/\y pre W')):=by
 obtain⟨len,f⟩:=it ts.length;rw[f]at M u m r;have z:=qd f;clear f;refine callsIn_of_wp func221 rfl trivial ?_ rfl;simp only[ntmps221,List.size_toArray,fk,iq,Nat.reduceAdd,Nat.reduceSub,Array.replicate_succ,Array.replicate_zero,List.push_toArray,List.append_toArray,lj,dk]
 gi_wp2
 gi_loopw [7] (λi wr=>∃k:Nat,k<=len/\i=I J k/\d (qam ts k) wr/\Below n₀ W wr)
  (λi _=>len - (intOf i).toNat)
 exact⟨0,bt _,rfl,H,uj⟩;obtain⟨k,P,rfl,a,o⟩:=hrel;have D:k<len->Xc wr b k (Y (BS (ts[k]?.getD []))):=λh=>(o.cell (p:=⟨b,k,O⟩) F).trans (r k h)
 by_cases A1:k<len
 .obtain⟨fn,tmps,assign,body,hy,hR⟩:=u _ (ts[k]?.getD []) wr a (by rw[qan];exact A1)
  have q:=D A1
  gi_wp2
  refine hR.mono ?_;rintro e W3 (⟨rfl,g,L⟩|⟨rfl,K⟩)
  .gi_wp2
   go_roundw
   exact⟨k+1,ub,uc,by rw[qps];exact g,o.trans L⟩;simp[intOf];omega
  gi_wp2
  refine bj (results_none rfl _ _ _) rfl ?_;exact⟨⟨_,rfl⟩,An ⟨_,by rw[ce,qan,q9 z];simp;omega,K⟩⟩
 obtain rfl:k=len:=ub
 gi_wp2
 go_end0
 exact⟨⟨_,rfl⟩,Am ⟨_,by rw[<-q9 z,qui],a⟩⟩
theorem qkt(n:Nat)(d:1<=n)(a n₀ b cap:Nat)(ts:List tu)(A:ts.length<=1000)(g:b<n₀)(w:Ao)(f:a<w.1.size)(d₀:n₀<=w.1.size)
  (o:Xc w a 0 (C (G ⟨b,0,O⟩) ts.length cap)) (y:∀j,j<ts.length->Xc w b j (Y (BS (ts[j]?.getD [])))) :
  SeqStopsK Fence.wide n prog 221 #[Ag (G ⟨a,0,O⟩)] (λx:tu=>#[Y (BS x)]) (Below n₀) (λi=>i=ts) (λpre=>pre.length<=ts.length) ts.length w:=λl z u W h _ _ q r=>
 qup n d l a n₀ b cap ts A g z u q W ((h.cell (p:=⟨a,0,O⟩) f).trans o) (λj m=>((h.mono d₀).cell (p:=⟨b,j,O⟩) g).trans (y j m)) r
theorem qx0:(prog.info? 9).map (λi=>(i.zero,i.size,i.bytes))=G (G (Y ⟨#[]⟩),1,16):=uh
theorem qie(n:Nat)(hn:2<=n)(a b cap:Nat)(ts:List tu)(U:ts.length<=1000)(w:Ao)(r:b<w.1.size)(m:a<w.1.size)
  (i:Xc w a 0 (C (G ⟨b,0,O⟩) ts.length cap)) (N:∀j,j<ts.length->Xc w b j (Y (BS (ts[j]?.getD [])))) :
  CallsIn Fence.wide n prog 244 #[C O 0 0,.func (.func 221) #[] #[Ag (G ⟨a,0,O⟩)]] w λe w'=>∃v,e=Ak v/\w'.ownsRow w.1.size 9 1 v ts.length (ts.map λx=>Y (BS x))/\Xb w w':=by
 have L:1<=n:=ub;obtain⟨A,I,P,S,Q⟩:=info_parts qx0;refine callsIn_of_wp_marks func244 rfl trivial ?_ rfl;simp only[ntmps244,List.size_toArray,fk,iq,Nat.reduceAdd,Nat.reduceSub,Array.replicate_succ,Array.replicate_zero,List.push_toArray,List.append_toArray,lj,dk]
 gi_wp2
 have M:=Boxed.new w 31 (C O 0 0);have o:Xb w (w.alloc (Al #[C O 0 0] 31)):=(Below.refl _ w).alloc ui _;refine wpIn_rangeFunc_ownG rfl L (gf:=221) (lb:=#[Ag (G ⟨a,0,O⟩)]) rfl trivial (enters_of func221 uh rfl)
  (qkt (n - 1) ub a w.1.size b cap ts U r (w.alloc (Al #[C O 0 0] 31)) ud uc ((o.cell (p:=⟨a,0,O⟩) m).trans i) (λj H=>(o.cell (p:=⟨b,j,O⟩) r).trans (N j H))) belowK_t (belowK_b uc) uj (λ_=>rfl)
  (λ(pre:List tu) W=>(∃v,Boxed W w.1.size 31 v/\W.ownsRow w.1.size 9 1 v pre.length (pre.map λx=>Y (BS x))/\True)/\Xb w W)
  (λ_ _ _=>False)
  (OwnFrom.and (Own.from (holdsRow_own w.1.size w.1.size 31 9 1 (λ(pre:List tu)=>pre.length) (λ(pre:List tu)=>pre.map λx=>Y (BS x)) (λ_ _=>True)) _) (ownFrom_below ui uc))
  (λ_ _ _ _ _ F _ _=>F)
  ⟨⟨_,M,dy _ _ _ _,trivial⟩,o⟩
  (λx=>{ tmps:=#[C O 0 0,.func (.func 221) #[] #[Ag (G ⟨a,0,O⟩)],Ag (G ⟨w.1.size,0,O⟩),undef,C O 0 0,Y (BS x),.func (.func 221) #[] #[Ag (G ⟨a,0,O⟩)],Y (BS x),undef,undef,undef,undef,undef],defers:=[] }) ?assign ?body ?done ?stop
 case assign=>
  intro l x W K d
  gi_wp2
  exact d
 case body=>
  rintro l pre x W⟨⟨v,hv,g,_⟩,f⟩ A1;have i:=hv.cell
  gi_wp2_with (gi_at_builtin;refine wpListIn_append_own _ rfl _ _ 31 rfl w.1.size 9 A (Y ⟨#[]⟩) 1 16 underlying31 I P S Q rfl ue _ _ _ rfl (g.alloc _) ⟨W.1.size,0,O⟩ 1 1 [Y (BS x)] rfl rfl (cell_one_new _ _ _) (by simp[Value.oneCell']) (by unfold maxLen;omega) ub (by have:=f.size;simp;omega) ?_;intro v' w1 u X _;obtain⟨g',cap',rfl⟩:=ownsRow_succ u;obtain⟨q,z,R,T,y⟩:=hv.appended ue g f.size ui u X;have C9:=q.cell;have G8:=q.frozen)
  exact⟨T.from _,y,⟨_,z,by simpa using R,trivial⟩,f.trans y⟩
 case done=>
  rintro D Z W J rfl⟨⟨v,hv,g,_⟩,f⟩ d;have i:=hv.cell
  gi_wp2
  refine⟨uc,Am ⟨_,_,rfl,run_takeDeferred d, ?_⟩⟩;exact⟨_,results_tmp rfl _ _ _,v,rfl,ownsRow_putObj g _ d rfl,f.trans (belowK_b (w:=w) ui W D _ _ (by simp at J;omega) d rfl rfl)⟩
 case stop=>
  rintro D c pre W _ _ h _;exact h.elim
end
theorem jn(s t:tq)(m n:Nat)(d:s.size<=m)(a:t.size<=n)(h:m+n<=9000000000):∃r,r=s++t/\r.size<=m+n/\∀w:Ao,(Op.stringOp .add s t).run prog w=.ok (Y r) w:=
 ⟨s++t,rfl,by rw[ByteArray.size_append];omega,λw=>run_string_add_sum (P:=prog) (w:=w) _ _ ub⟩
theorem jo(a b:tu):BS a++BS b=BS (a++b):=by
 apply ByteArray.ext;apply Array.ext';simp[BS]
theorem vmh(s:tq)(k:Nat)(h:k<s.size):s.data.toList.take (k+1)=s.data.toList.take k++[s[k]]:=by
 rw[dn,ag (by rw[qu];exact h),qD s k h];rfl
theorem vq5(s:tq)(k:Nat)(h:k<s.size):s.extract k (k+1)=BS [s[k]]:=by
 have:(s.extract k (k+1)).data.toList=[s[k]]:=by
  rw[se,Nat.add_sub_cancel_left,cj (by rw[qu];exact h),qD s k h];simp
 apply ByteArray.ext;apply Array.ext';exact this
theorem vq4(c:UInt8):((c.toNat:Int)==39)=(c==39):=by
 rw[lw,ew,ew];constructor;intro h;apply UInt8.toNat.inj;have:c.toNat=39:=ub;rw[this];rfl;intro h;rw[h];rfl
theorem vhv(l:tu)(c:UInt8):yg (l++[c])=if c==39 then yg l++[39,39] else yg l++[c]:=by
 rw[qmp]
 by_cases h:(c==39)=true
 rw[bo h];simp only[yg,bo h];rw[ak h];simp only[yg,ak h]
theorem vmg(l:tu):(yg l).length<=2 * l.length:=by
 induction l with
 | nil=>exact bt _
 | cons c r ih=>
  rw[yg]
  split<;>simp<;>omega
theorem ya(s:tq)(K:s.size<=1000)(w:Ao):
  ua 147 #[Y s] w λe w'=>e=Ak (Y (BS (qL s.data.toList)))/\w'=w:=by
 have C:=qu s;go_enter func147,ntmps147
 go_wp2
 go_loop [3,4] (λo i=>∃k:Nat,k<=s.size/\i=I J k/\o=Y (BS (39::yg (s.data.toList.take k)))) (λ_ i=>s.size - (intOf i).toNat)
 exact⟨0,bt _,rfl,rfl⟩;obtain⟨k,L,rfl,rfl⟩:=hrel;have q:=vmg (s.data.toList.take k);rw[cw,C]at q;obtain⟨u,a⟩:=it (BS (39::yg (s.data.toList.take k)));have d:u.size<=2001:=by rw[<-a,qJ,fk];omega
 by_cases A1:k<s.size
 .have hX:=vq5 s k A1
  have m:(s.extract k (k+1)).size<=1:=by rw[hX,qJ];exact ui
  have r:=vmh s k A1
  cases hq:(s[k]==39) with
  | true=>
   have D:((s[k].toNat:Int)==39)=true:=by rw[vq4];exact hq
   obtain⟨A,g,j,G⟩:=jn u ⟨#[39]⟩ 2001 1 d ui ue;obtain⟨Z,f,y,F⟩:=jn A (s.extract k (k+1)) 2002 1 j m ue
   have z:Hid (Z=BS (39::yg (s.data.toList.take (k+1)))):=qd (by
    rw[f,g,<-a,hX,show(⟨#[39]⟩:tq)=BS [39] from rfl,jo,jo,r,vhv,bo hq,eq_of_beq hq]
    simp)
   rw[a];clear a q d hX m r hq g j f y
   go_wp2
   go_round
   case rel=>exact⟨k+1,ub,by go_num,by rw[q9 z]⟩
   simp[intOf];omega
  | false=>
   have D:((s[k].toNat:Int)==39)=false:=by rw[vq4];exact hq
   obtain⟨Z,f,y,F⟩:=jn u (s.extract k (k+1)) 2001 1 d m ue
   have z:Hid (Z=BS (39::yg (s.data.toList.take (k+1)))):=qd (by
    rw[f,<-a,hX,jo,r,vhv,ak (by rw[hq];decide)]
    simp)
   rw[a];clear a q d hX m r hq f y
   go_wp2
   go_round
   case rel=>exact⟨k+1,ub,by go_num,by rw[q9 z]⟩
   simp[intOf];omega
 obtain rfl:k=s.size:=ub;obtain⟨A,g,j,G⟩:=jn u ⟨#[39]⟩ 2001 1 d ui ue
 have H:Hid (A=BS (qL s.data.toList)):=qd (by
  rw[g,<-a,show(⟨#[39]⟩:tq)=BS [39] from rfl,jo,fo (by rw[C];exact ui)]
  rfl)
 rw[a];clear a q d g j
 go_wp2
 go_ret;exact⟨by rw[q9 H];rfl,rfl⟩
theorem vjb(u:Nat)(h:u<=9223372036854775807):(Lib.decDigits u).length<=21:=by
 have:=Lib.itoa_length_le (u:Int) ub ub;rwa [Lib.itoa_nonneg]at this
theorem qk3:∀(u:Nat),u<=9223372036854775807->∀w:Ao,Calls prog 146 #[I J (u:Int)] w λe w'=>e=Ak (Y (BS (Lib.decDigits u)))/\Xb w w':=by
 intro u
 induction u using Nat.strongRecOn with
 | _ u ih=>
  intro F w;have hd:(UInt8.ofNat (48+u % 10)).toNat=48+u % 10:=by rw[UInt8.toNat_ofNat'];omega
  have CV:∀w:Ao,(convert 65 9 (C (G ⟨w.1.size,0,O⟩) 1 1)).run prog (w.alloc (Al #[I .u8 (48+(u:Int) % 10)] 5))=.ok (Y (BS [UInt8.ofNat (48+u % 10)])) (w.alloc (Al #[I .u8 (48+(u:Int) % 10)] 5)):=λw=>by
   have:=qqa (UInt8.ofNat (48+u % 10)) w;rw[hd,show((48+u % 10:Nat):Int)=48+(u:Int) % 10 by omega]at this;exact this
  have g:=CV w;obtain⟨S,a⟩:=it (BS [UInt8.ofNat (48+u % 10)]);rw[a]at g;have q:=um u;have o:(u:Int)<=9223372036854775807:=ub
  by_cases h:u<10
  .have d:Lib.decDigits u=[UInt8.ofNat (48+u % 10)]:=by rw[Lib.decDigits_one h,Nat.mod_eq_of_lt h]
   rw[d,a];have r:(u:Int)<10:=ub;clear CV hd d ih a;go_enter func146,ntmps146
   go_wp2
   go_ret;exact⟨rfl,uj.alloc ui _⟩
  have d:Lib.decDigits u=Lib.decDigits (u / 10)++[UInt8.ofNat (48+u % 10)]:=by rw[Lib.decDigits,dif_neg h]
  have r:¬(u:Int)<10:=ub
  have j:Hid (∀w,Calls prog 146 #[I J ((u:Int) / 10)] w λe w'=>e=Ak (Y (BS (Lib.decDigits (u / 10))))/\Xb w w'):=qd λw=>by
   have:=ih (u / 10) ub ub w;rwa [show((u / 10:Nat):Int)=(u:Int) / 10 by omega]at this
  obtain⟨A,f⟩:=it (BS (Lib.decDigits (u / 10)));obtain⟨R,i,m,H⟩:=jn A S 21 1 (by rw[<-f,qJ];exact vjb _ ub) (by rw[<-a,qJ];exact ui) ue;have y:Hid (BS (Lib.decDigits u)=R):=qd (by rw[d,i,<-f,<-a,jo]);rw[f]at j;rw[q9 y];clear CV hd d ih a f i m;go_enter func146,ntmps146
  go_wp2_with(go_at_call 146;refine be (j _) λD z=>?_)
  go_ret;exact⟨rfl,qg (uj.alloc ui _) z⟩
theorem qpa(v:V)(hv:v.V.length<=140737488355328)(w:Ao):
  Calls prog 68 #[vV v] w λe w'=>e=Ak (Ah (gY v))/\Xb w w':=by
 have d:=qpx v.V;have f:=qJ v.V;unfold gY;obtain⟨g,a⟩:=it v.V.isEmpty;rw[a]at d |-;clear a
 conv=>arg 3;simp only[vV]
 cases h0:(v.A==0)
 .cases h1:(v.A==1)
  .cases h2:(v.A==2)
   .cases h3:(v.A==3)
    .simp only[dg,if_false]
     go_enter func68,ntmps68
     go_wp2
     go_ret;exact⟨rfl,uj.alloc ui _⟩
    simp only[dg,if_false,if_true];go_enter func68,ntmps68
    go_wp2
    all_goals(go_ret;exact⟨qY (by simp_all<;>omega),uj.alloc ui _⟩)
   simp only[dg,if_false,if_true];go_enter func68,ntmps68
   go_wp2
   all_goals(go_ret;exact⟨qY (by simp_all<;>omega),uj.alloc ui _⟩)
  simp only[dg,if_false,if_true];go_enter func68,ntmps68
  go_wp2
  all_goals(go_ret;exact⟨qY (by simp_all<;>omega),uj.alloc ui _⟩)
 simp only[if_true];go_enter func68,ntmps68
 go_wp2
 all_goals(go_ret;exact⟨qY (by simp_all<;>omega),uj.alloc ui _⟩)
theorem qtp(s:tq)(w:Ao):ut 67 #[Y s] w (Ah (jI s.data.toList)):=by
 have q:=qu s
 by_cases h0:s.size=0
 .have a:jI s.data.toList=false:=by
   have D:s.data.toList=[]:=de ub;rw[D];rfl
  rw[a];have C:(s.size:Int)<1:=ub;clear a;go_enter func67,ntmps67
  go_wp2
  go_ret;exact⟨rfl,uj⟩
 have C:¬(s.size:Int)<1:=ub
 by_cases h16:s.size<=16
 .have F:¬(s.size:Int) > 16:=ub
  have h16'':¬(16:Int)<(s.size:Int):=ub;have y:0<s.size:=ub
  have hd:s.data.toList=s[0]::s.data.toList.drop 1:=by
   have:=cj (l:=s.data.toList) (i:=0) (by rw[qu];exact y);rw[dw,qD s 0 y]at this;exact this
  have j:jI s.data.toList=yR s.data.toList:=by unfold jI;rw[q,di h16,li]
  rw[j]
  cases hb:yH s[0] with
  | false=>
   have a:yR s.data.toList=false:=by
    unfold yR;rw[hd];simp[qB,hb]
   rw[a];have o:=qd hb;clear hd j a hb;go_enter func67,ntmps67
   go_wp2_with(go_at_call 109;refine be (jf _ _) ?_;rintro w' rfl;rw[show qbj (s[0].toNat:Int)=false from q9 o])
   go_ret;exact⟨rfl,uj⟩
  | true=>
   have W:=qka s ub 0 y hb;rw[dw,ee]at W;obtain⟨z,d⟩:=it (qB s.data.toList);have G:=xh s.data.toList;have H:0<z:=by rw[<-d,hd];simp[qB,hb]
   rw[d]at W G;have g:j9 s.data.toList=if yf (s.data.toList.take z)=2 then⟨2,0,s.data.toList.take z⟩ else qi (yf (s.data.toList.take z)):=by rw[<-d];rfl
   have m:yR s.data.toList=(decide (z=s.size)&&(yf s.data.toList==2)):=by
    unfold yR;rw[d,q,di H,li]
   have o:=qd hb
   by_cases hk:yf (s.data.toList.take z)=2
   .rw[g,bo hk,qqz]at W
    have a:yR s.data.toList=((z:Int)==(s.size:Int)):=by
     rw[m]
     by_cases e:z=s.size
     rw[fo ub]at hk;simp[e,hk];rw[db e,oo,bh.2 (show ¬(z:Int)=(s.size:Int) by omega)]
    rw[a];unfold rtV at W;have u:=qd W;clear hd j a hb W g m hk d;go_enter func67,ntmps67
    go_wp2_with(first|(go_at_call 109;refine be (jf _ _) ?_;rintro w' rfl;rw[show qbj (s[0].toNat:Int)=true from q9 o])|(go_at_call 110;refine be (u _) λA f=>?_))
    all_goals(go_ret;exact⟨qY (by simp_all),f.alloc f.size _⟩)
   rw[g,ak hk]at W;have r:5<=yf (s.data.toList.take z)/\yf (s.data.toList.take z)<=15:=(qx8 (l:=Lib.toUpperA (s.data.toList.take z)) hk).2;rw[vht rfl r.1 r.2]at W
   have a:yR s.data.toList=false:=by
    rw[m]
    by_cases e:z=s.size
    rw[fo ub]at hk;rw[bh.2 hk,iz];rw[db e,oo]
   rw[a];unfold rtV at W;have u:=qd W;clear hd j a hb W g m hk d r;go_enter func67,ntmps67
   go_wp2_with(first|(go_at_call 109;refine be (jf _ _) ?_;rintro w' rfl;rw[show qbj (s[0].toNat:Int)=true from q9 o])|(go_at_call 110;refine be (u _) λA f=>?_))
   all_goals(go_ret;exact⟨rfl,f.alloc f.size _⟩)
 have a:jI s.data.toList=false:=by unfold jI;rw[q,db h16,oo]
 rw[a];have F:(s.size:Int) > 16:=ub;have h16'':(16:Int)<(s.size:Int):=ub;clear a;go_enter func67,ntmps67
 go_wp2
 go_ret;exact⟨rfl,uj⟩
theorem qgx{p:Pr}(hp:ps[k]?=G p)(h:jI p.N=false\/gY p.val=false\/∃j q,j<k/\ps[j]?=G q/\(q.N==p.N)=true):qeb ps k=false:=by
 unfold qeb;rw[hp];simp only;rcases h with h|h|⟨j,q,a,hq,e⟩;rw[h];rfl;rw[h,iz];rfl;have:qi5 (ps.take k) p.N=true:=mh.2 ⟨q,bg (i:=j) (by rw[sj a];exact hq),e⟩;rw[this,ow,iz]
theorem qy8{p:Pr}(hp:ps[k]?=G p)(g:jI p.N=true)(f:gY p.val=true)(d:∀j q,j<k->ps[j]?=G q->(q.N==p.N)=false):qeb ps k=true:=by
 unfold qeb;rw[hp];simp only
 have:qi5 (ps.take k) p.N=false:=by
  unfold qi5;rw[oz];intro q hq;obtain⟨j,a⟩:=dd hq;have i:=(aj.1 a).1;rw[cw]at i;rw[sj ub]at a;rw[d j q ub a];decide
 rw[g,f,this];rfl
theorem qp5(a:Option Addr)(n cap:Nat)(d:8<n)(w:Ao):ut 33 #[C a n cap] w (Ah false):=by
 go_enter func33,ntmps33
 go_wp2
 go_ret;exact⟨rfl,uj⟩
theorem qz6(b off cap:Nat)(ps:List Pr)(w:Ao)(X:ps.length<=8)(aL:qv0 ps)(hw:EvAt w b off ps)(R:b<w.1.size):
  ut 33 #[C (G ⟨b,off,O⟩) ps.length cap] w (Ah (ym ps)):=by
 obtain⟨n,M⟩:=it ps.length;obtain⟨E,P⟩:=it (ym ps);rw[P,M];have Q:Hid (∀k,k<n->qeb ps k=false->E=false):=qd λk hk h=>by rw[<-P];exact vd9 ub h
 have NK:Hid ((∀j,j<n->qeb ps j=true)->E=true):=qd λh=>by rw[<-P];exact qip X (λj d=>h j ub)
 have HW:=qd hw;have mZ:=qd aL;have HN:=qd M;rw[M]at X;go_enter func33,ntmps33
 go_wp2
 go_loopw [3] (λi wr=>∃k:Nat,k<=n/\i=I J k/\Hid (∀j,j<k->qeb ps j=true)/\Hid (Xb w wr)) (λi _=>n - (intOf i).toNat)
 exact⟨0,bt _,rfl,qd (λj d=>absurd d ub),qd uj⟩;obtain⟨k,hk,rfl,HK,B⟩:=hrel
 by_cases Z0:k<n
 .obtain⟨p,hp⟩:∃p,ps[k]?=G p:=⟨_,ag (uu (q9 HN))⟩
  have H:=(q9 HW).below B R;obtain⟨c0,c1,c2,c3⟩:=H k p hp;have lV:b<wr.1.size:=aq R B.size;have g:=qd (qpa p.val (mZ p (bg hp)).2);have K:Hid (∀w,ut 67 #[Y (BS p.N)] w (Ah (jI p.N))):=qd λw=>qtp (BS p.N) w
  obtain⟨nb,Z⟩:∃x,jI p.N=x:=⟨_,rfl⟩;obtain⟨vb,AV⟩:∃x,gY p.val=x:=⟨_,rfl⟩;rw[Z]at K;rw[AV]at g;have y:=qd Z;have u:=qd AV;have z:=qd hp;simp only[vV]at g
  cases nb with
  | false=>
   have o:=q9 Q k Z0 (qgx z (Am y))
   go_wp2_with(first|(go_at_call 67;refine be (K _) λS a=>?_;obtain⟨W,U⟩:=qk a;have D:=qd (qg B a);have B8:=a.size)|(go_at_call 68;refine be (g _) λw2 F=>?_;have A:=qd (qg D F)))
   go_ret;exact⟨by rw[o];rfl,q9 A⟩
  | true=>
   cases vb with
   | false=>
    have o:=q9 Q k Z0 (qgx z (An (Am u)))
    go_wp2_with(first|(go_at_call 67;refine be (K _) λS a=>?_;obtain⟨W,U⟩:=qk a;have D:=qd (qg B a);have B8:=a.size)|(go_at_call 68;refine be (g _) λw2 F=>?_;have A:=qd (qg D F)))
    go_ret;exact⟨by rw[o];rfl,q9 A⟩
   | true=>
    go_wp2_with(first|(go_at_call 67;refine be (K _) λS a=>?_;obtain⟨W,U⟩:=qk a;have D:=qd (qg B a))|(go_at_call 68;refine be (g _) λw2 F=>?_;have A:=qd (qg D F)))
    go_loopw [6] (λi wr=>∃m:Nat,m<=k/\i=I J m/\Hid (∀j q,j<m->ps[j]?=G q->(q.N==p.N)=false)/\Hid (Xb w wr)) (λi _=>k - (intOf i).toNat)
    exact⟨0,bt _,rfl,qd (λj q d=>absurd d ub),A⟩;obtain⟨m,hm,rfl,HM,L⟩:=hrel
    by_cases ON:m<k
    .obtain⟨q,hq⟩:∃q,ps[m]?=G q:=⟨_,ag (uu (q9 HN))⟩
     have H:=(q9 HW).below L R;obtain⟨d0,_,_,_⟩:=H m q hq;obtain⟨e0,_,_,_⟩:=H k p z;have M6:((BS q.N).toList==(BS p.N).toList)=(q.N==p.N):=by rw[qP,qP]
     cases hx:(q.N==p.N) with
     | true=>
      rw[hx]at M6;have o:=q9 Q k Z0 (qgx z (An (An ⟨m,q,ON,hq,hx⟩)))
      go_wp2
      go_quiet (fail)
      go_wp2
      go_ret;exact⟨by rw[o];rfl,ep L _⟩
     | false=>
      rw[hx]at M6
      have fH:Hid (∀j r,j<m+1->ps[j]?=G r->(r.N==p.N)=false):=qd λj r d f=>by
       by_cases GE:j=m
       subst GE;rw[hq]at f;injection f with f;subst f;exact hx;exact q9 HM j r ub f
      go_wp2
      go_quiet (fail)
      go_wp2
      exact⟨⟨m+1,ub,rfl,fH,qd (ep L _)⟩,by simp[intOf];omega⟩
    have T:=uq m k
    have N7:Hid (∀j,j<k+1->qeb ps j=true):=qd λj d=>by
     by_cases hjk:j=k
     subst hjk;exact qy8 z y u (λi q hi hq=>q9 HM i q ub hq);exact q9 HK j ub
    go_wp2
    exact⟨⟨k+1,ub,rfl,N7,L⟩,by simp[intOf];omega⟩
 have CA:k=n:=ub;subst CA;have N:=q9 NK HK
 go_wp2
 go_ret;exact⟨by rw[N];rfl,q9 B⟩
theorem qk6(a:Option Addr)(cap:Nat)(ps:List Pr)(s:tq)(w:Ao)(y:ps.length<=1000)(u:∀(k:Nat) (p:Pr),ps[k]?=G p->∃b off,a=G ⟨b,off,O⟩/\b<w.1.size/\EvAt w b off ps):
  ut 134 #[C a ps.length cap,Y s] w (vV (yh ps s.data.toList)):=by
 obtain⟨F,o⟩:∃f,yh ps s.data.toList=f:=⟨_,rfl⟩;obtain⟨n,j⟩:=it ps.length;rw[o,j];have A:=qd o;have r:=qd j;have z:=qd u;rw[j]at y;go_enter func134,ntmps134
 go_wp2
 go_loop [5] (λi=>∃k:Nat,k<=n/\i=I J k/\Hid (F=yh (ps.drop k) s.data.toList)) (λi=>n - (intOf i).toNat)
 exact⟨0,bt _,rfl,qd (by rw[dw,q9 A])⟩;obtain⟨k,H,rfl,m⟩:=hrel
 by_cases J9:k<n
 .obtain⟨p,hp⟩:∃p,ps[k]?=G p:=⟨_,ag (uu (q9 r))⟩
  obtain⟨b,off,rfl,Q,D⟩:=q9 z k p hp;obtain⟨N,M,L,K⟩:=D k p hp;have g:=qis (n:=s.data.toList) hp;have q:((BS p.N).toList==s.toList)=(p.N==s.data.toList):=by rw[qP,gs]
  have P:=uo k n
  cases he:(p.N==s.data.toList) with
  | true=>
   rw[he,bo rfl]at g;rw[he]at q;have d:Hid (F=p.val):=qd (by rw[q9 m,g])
   go_wp2
   refine tw ⟨?_, ?_⟩;rw[q9 d];rfl
   repeat' (first|exact(uj).alloc ui _|refine Below.setCell ?_ uc _)
  | false=>
   rw[he,ak uc]at g;rw[he]at q;have d:Hid (F=yh (ps.drop (k+1)) s.data.toList):=qd (by rw[q9 m,g])
   go_wp2
   go_round
   case rel=>exact⟨k+1,ub,by go_num,d⟩
   simp[intOf];omega
 have d:Hid (F=nV):=qd (by rw[q9 m,eh (uu (q9 r))];rfl)
 go_wp2
 refine tw ⟨?_, ?_⟩;rw[q9 d];rfl
 repeat' (first|exact(uj).alloc ui _|refine Below.setCell ?_ uc _)
end Go.Proofs.YtdmmmgodfceilaaGreatDoor
