/- Read -/
import Derived.Test.YtmepkbgodcffoaaGreatDoorM08
import Derived.Lib.AppendIntMem
import Derived.Lib.ItoaNum
import Derived.Lib.SlicesCompact
import Derived.Lib.ItoaLen
set_option maxHeartbeats 32000000
set_option maxRecDepth 100000
namespace Go.Proofs.YtmepkbgodcffoaaGreatDoor
open Go.RowKit Go.Proofs.Tryz
open _root_.List renaming length->A
open Go.World renaming setCell->B
open Bool renaming false->uh,true->ui
open Go.Addr renaming mk->D
open _root_.Array renaming size->Z,toList->T
open Go renaming Value->Ap,World->Ao
open Go.Ending renaming returned->Ak
open Go.IntKind renaming i64->J
open Go.Obj renaming cells->Al
open Go.Value renaming agg->Ai,bool->Ah,int->I,pointer->Ag,slice->C,string->Y,tuple->Aj
open Option renaming none->O,some->G
variable{p:Addr}{t:Ast}{s:uj}{n op pl:Int}{ts:List uk}{l:uk}{uc E E' b c m rb vb:Nat}{a:Option Addr}{f:TS->TRes}{x:V}{v:Ap}{W w w':Ao}
theorem ErrOk.set(h:ErrOk w)(hp:3<p.block)(u:Ap):ErrOk (B w p u):=by
 grind[size_setCell,World.cell?_of_block,Below.heap_setCell,ErrOk]
theorem vsq(s:uj)(d:s.size<=200):(∃en pl,(lvl s 12).E (qh s st0)=.err en pl/\qW s=.err en pl)\/∃t N0,(lvl s 12).E (qh s st0)=.ok t N0/\((¬N0.tk.Q=0/\qW s=.err 2 N0.U)\/(N0.tk.Q=0/\((∃q,qz3 (qC t)=G q/\qW s=.err 4 q)\/(qz3 (qC t)=O/\qW s=.ok t)))):=by
 cases hE:(lvl s 12).E (qh s st0)<;>grind[qW,qr3]
theorem yT(s:uj)(w:Ao)(C:ErrOk w)(t7:s.size<=140737488355328):
  uo 47 #[Y s] w (qdo w (qW s)):=by
 have hmf:∀(fn:Fn) (first cap:Array Ap) (w:Ao),(Instr.makeFunc fn first cap).run prog w=.ok (.func fn first cap) w:=λ_ _ _ _=>rfl
 by_cases hs:s.size<=200
 .skip
  have M3:s.size<=140737488355328:=t7;have hb:decide ((200:Int)<(s.size:Int))=uh:=da uq;have RDY:=qd (qqb w s C hs);have F:=qd (qqa w s);have BB:=qd (qq9 w s);have BZ:=pI w s;have EI:=qd (vc0 (Z w.1+3) s hs 12 0 rfl).E;have HF1:=qd (qH s st0 (bt _));have GOOD:=qd (vj6 s hs);have ERR2:Hid (∀w2 u,Kept (Z w.1+3) (begun w s) w2->ErrOk (B w2 ⟨Z w.1,0,O⟩ u)):=qd λw2 u M=>((qm0 w s C).P M (md C.1)).set C.1 u
  clear C t7;obtain⟨en,pl,D4,P⟩|⟨t,N0,D4,⟨M,P⟩|⟨M,⟨q,ZP,P⟩|⟨ZP,P⟩⟩⟩:=vsq s hs
  all_goals
   rw[P];clear P
   try have CHK:=qd (va7 (Z w.1+3) t (GOOD _ _ _ D4))
   have O5:=qd D4;clear D4
   try(have HK:=qd M;clear M)
   try(have HCH:=qd ZP;clear ZP)
   go_enter_defers func47,ntmps47
   go_wp2_with(first|(go_at_call 79;refine be (yY (Z w.1+3) s st0 (begun w s) M3 (bt _) RDY.at' RDY.lt RDY.err) ?_;rintro A⟨C7,A5⟩;have B9:=A5.size;rw[pI]at B9;obtain⟨j,d⟩:=jY A5;rw[pI]at j d;have a0:A.cell? ⟨Z w.1,0,O⟩=G (Ag O):=(j _ 0 uq uq).trans F.1;have a1:A.cell? ⟨Z w.1+1,0,O⟩=G (I J 0):=(j _ 0 uq uq).trans F.2.1;have a2:A.cell? ⟨Z w.1+2,0,O⟩=G (I J 0):=(j _ 0 uq uq).trans F.2.2.1;have b0:A.frozen? ⟨Z w.1,0,O⟩=uh:=(d _ 0 uq uq).trans F.2.2.2.1;have b1:A.frozen? ⟨Z w.1+1,0,O⟩=uh:=(d _ 0 uq uq).trans F.2.2.2.2.1;have b2:A.frozen? ⟨Z w.1+2,0,O⟩=uh:=(d _ 0 uq uq).trans F.2.2.2.2.2;have Y8:=qd (RDY.P A5 C7 HF1);have bE:=qd A5;clear C7 A5 j d)|(go_at_call 80;refine(EI A (qh s st0) Y8 rfl).mono ?_;rintro e w2⟨B8,h2⟩;rw[q9 O5]at h2;(first|subst h2|(obtain⟨v2,rfl,T,C8,P9,U3,M7⟩:=h2;obtain⟨vb,rfl⟩:=T.ptr;have T:=qd T;have C8:=qd C8;have P9:=qd P9));have D8:=B8.size;obtain⟨j,d⟩:=jY B8;have c0:w2.cell? ⟨Z w.1,0,O⟩=G (Ag O):=(j _ 0 uq uq).trans a0;have c1:w2.cell? ⟨Z w.1+1,0,O⟩=G (I J 0):=(j _ 0 uq uq).trans a1;have c2:w2.cell? ⟨Z w.1+2,0,O⟩=G (I J 0):=(j _ 0 uq uq).trans a2;have d0:w2.frozen? ⟨Z w.1,0,O⟩=uh:=(d _ 0 uq uq).trans b0;have d1:w2.frozen? ⟨Z w.1+1,0,O⟩=uh:=(d _ 0 uq uq).trans b1;have d2:w2.frozen? ⟨Z w.1+2,0,O⟩=uh:=(d _ 0 uq uq).trans b2;have H:=qd (bE.trans B8);clear B8 j d a0 a1 a2 b0 b1 b2;try simp only[vg])|(go_at_call 81;(first|(refine be (qki (Z w.1+3) s N0 0 (B w2 ⟨Z w.1,0,O⟩ (Ag (G (D vb 0 O)))) M3 P9.H (C8.setOther (by show ¬Z w.1=Z w.1+3;omega) _) (by rw[size_setCell];omega) (ERR2 _ _ H) HK) ?_;rintro r⟨F3,F2⟩;clear F3)|(refine be (qt2 (Z w.1+3) s N0 0 (B w2 ⟨Z w.1,0,O⟩ (Ag (G (D vb 0 O)))) (C8.setOther (by show ¬Z w.1=Z w.1+3;omega) _) (by rw[size_setCell];omega) HK) λr F2=>?_));have S4:Z w2.1<=Z r.1:=(by have:=F2.size;rwa[size_setCell]at this);obtain⟨j,d⟩:=jY F2;rw[size_setCell]at j d;have g0:r.cell? ⟨Z w.1,0,O⟩=G (Ag (G (D vb 0 O))):=(j _ 0 uq uq).trans (by simp[go_sem,c0]);have g1:r.cell? ⟨Z w.1+1,0,O⟩=G (I J 0):=(j _ 0 uq uq).trans (by simp[go_sem,c1]);have g2:r.cell? ⟨Z w.1+2,0,O⟩=G (I J 0):=(j _ 0 uq uq).trans (by simp[go_sem,c2]);have i0:r.frozen? ⟨Z w.1,0,O⟩=uh:=(d _ 0 uq uq).trans (by simp[go_sem,d0]);have i1:r.frozen? ⟨Z w.1+1,0,O⟩=uh:=(d _ 0 uq uq).trans (by simp[go_sem,d1]);have i2:r.frozen? ⟨Z w.1+2,0,O⟩=uh:=(d _ 0 uq uq).trans (by simp[go_sem,d2]);have Q:=qd F2;clear F2 j d c0 c1 c2 d0 d1 d2;first|simp only[tkV]|simp only[vg])|(go_at_call 82;refine(CHK r (Ag (G (D vb 0 O))) (T.above (((Above.mk ux (λ_ _ _=>rfl)).setCell (p:=⟨Z w.1,0,O⟩) (by show Z w.1<=Z w.1+3;omega) (Ag (G (D vb 0 O)))).trans Q.above))).mono ?_;rintro e y⟨z,h4⟩;rw[q9 HCH]at h4;subst h4;have MG:=z.size;obtain⟨bc,bf⟩:=qi z;have j0:y.cell? ⟨Z w.1,0,O⟩=G (Ag (G (D vb 0 O))):=(bc _ 0 uq).trans g0;have j1:y.cell? ⟨Z w.1+1,0,O⟩=G (I J 0):=(bc _ 0 uq).trans g1;have j2:y.cell? ⟨Z w.1+2,0,O⟩=G (I J 0):=(bc _ 0 uq).trans g2;have l0:y.frozen? ⟨Z w.1,0,O⟩=uh:=(bf _ 0 uq).trans i0;have l1:y.frozen? ⟨Z w.1+1,0,O⟩=uh:=(bf _ 0 uq).trans i1;have l2:y.frozen? ⟨Z w.1+2,0,O⟩=uh:=(bf _ 0 uq).trans i2;have z:=qd z;clear bc bf g0 g1 g2 i0 i1 i2;try simp only[vg]))
   refine leaves_cons (f:=78) (args:=#[Ag (G ⟨Z w.1,0,O⟩),Ag (G ⟨Z w.1+1,0,O⟩),Ag (G ⟨Z w.1+2,0,O⟩)]) ur (by simp[go_sem]) ?_
   first
    | (
     refine(yx (Z w.1) (Ag (G (D vb 0 O))) (I J 0) (I J 0) _ _ [] y uq j0 j1 j2 l0 l1 l2).mono ?_;rintro e u' w9⟨rfl,rfl,L,k1,K,R⟩;have U:=qd (((Q.h ((H.h BB uq uq).setCell (by show Z w.1<=Z w.1;omega) _) uq (by rw[size_setCell];omega)).trans (z.mono uq)).trans R);simp[Leaves,settle,results,results47,go_sem,L,k1,K]
     exact⟨q9 U,rfl⟩)
    | (
     have _q:=z;refine(qvz _ _ _ _).mono ?_;rintro e u' w9⟨rfl,rfl,rfl⟩;simp[Leaves,settle,results,results47,go_sem,j0,j1,j2];have A2:Above (Z w.1+3) w2 y:=(((Above.mk ux (λ_ _ _=>rfl)).setCell (p:=⟨Z w.1,0,O⟩) (by show Z w.1<=Z w.1+3;omega) (Ag (G (D vb 0 O)))).trans Q.above).trans (Kept.x z).above;have B4:Xb w y:=(Q.h ((H.h BB uq uq).setCell (by show Z w.1<=Z w.1;omega) _) uq (by rw[size_setCell];omega)).trans (z.mono uq)
     exact⟨((B4.setCell (by show Z w.1<=Z w.1;omega) _).setCell (by show Z w.1<=Z w.1+1;omega) _).setCell (by show Z w.1<=Z w.1+1+1;omega) _,_,rfl,T.above (((A2.setCell (by show Z w.1<=Z w.1+3;omega) _).setCell (by show Z w.1+1<=Z w.1+3;omega) _).setCell (by show Z w.1+1+1<=Z w.1+3;omega) _)⟩)
    | (
     refine(yx (Z w.1) (Ag (G (D vb 0 O))) (I J 0) (I J 0) _ _ [] r uq g0 g1 g2 i0 i1 i2).mono ?_;rintro e u' w9⟨rfl,rfl,L,k1,K,R⟩;have U:=qd ((Q.h ((H.h BB uq uq).setCell (by show Z w.1<=Z w.1;omega) _) uq (by rw[size_setCell];omega)).trans R);simp[Leaves,settle,results,results47,go_sem,L,k1,K]
     exact⟨q9 U,rfl⟩)
    | (
     refine(yx (Z w.1) (Ag O) (I J 0) (I J 0) _ _ [] w2 uq c0 c1 c2 d0 d1 d2).mono ?_;rintro e u' w9⟨rfl,rfl,L,k1,K,R⟩;have U:=qd ((H.h BB uq uq).trans R);simp[Leaves,settle,results,results47,go_sem,L,k1,K]
     exact⟨q9 U,rfl⟩)
 rw[qW,ak hs];have hb:decide ((200:Int)<(s.size:Int))=ui:=de uq;clear C t7 hs
 go_enter_defers func47,ntmps47
 go_wp2
 have q0:(((w.alloc (Al #[Ag O] 91)).alloc (Al #[I J 1] 58)).alloc (Al #[I J 0] 3)).cell? ⟨Z w.1,0,O⟩=G (Ag O):=by
  rw[bj _ _ _ uv,bj _ _ _ ur,ce _ _ _ _ rfl];rfl
 have q1:(((w.alloc (Al #[Ag O] 91)).alloc (Al #[I J 1] 58)).alloc (Al #[I J 0] 3)).cell? ⟨Z w.1+1,0,O⟩=G (I J 1):=by
  rw[bj _ _ _ ur,ce _ _ _ _ ur];rfl
 have q2:(((w.alloc (Al #[Ag O] 91)).alloc (Al #[I J 1] 58)).alloc (Al #[I J 0] 3)).cell? ⟨Z w.1+1+1,0,O⟩=G (I J 0):=by
  rw[ce _ _ _ _ ur];rfl
 simp[bodyPostD,Leaves,results,results47,go_sem,q0,q1,q2];exact⟨jK _ _ _ _,rfl⟩
def yK:List UInt8->List UInt8
 | []=>[]
 | c::r=>if c==39 then 39::39::yK r else c::yK r
theorem qqq(a b:uk):yK (a++b)=yK a++yK b:=by
 induction a<;>grind[yK]
theorem qtu(a:uk):A (yK a)<=2 * A a:=by
 induction a<;>grind[yK]
theorem vdh(r:uk)(h:∀c,r.head?=G c->(c==39)=uh):vu (39::r)=G ([],1):=by
 cases r with
 | nil=>rfl
 | cons d t=>rw[vu,bs uu,ak (by rw[h d rfl];decide)]
theorem vdg(r:uk)(h:∀c,r.head?=G c->(c==39)=uh)(s:uk):vu (yK s++39::r)=G (s,A (yK s)+1):=by
 induction s with
 | nil=>exact vdh r h
 | cons c t ih=>
  rw[yK]
  by_cases hc:(c==39)=ui
  grind[vu]
  rw[ak hc]
  cases hd:yK t++39::r with
  | nil=>simp at hd
  | cons d u =>grind[vu]
structure LibOk(w:Ao):Prop where
 err:ErrOk w
 max:4<w.1.size/\∃m,w.cell? ⟨4,0,O⟩=G (I J m)
 pow : Lib.TabIs prog w "internal/strconv.uint64pow10" .u64 Lib.pow10Tab
theorem LibOk.h(h:LibOk w)(d:Below uc w w')(e:Z w.1<=uc):LibOk w':=by
 obtain⟨j,m,q⟩:=h.max;exact⟨h.err.h d e,⟨au j (md d.size),m,(d.cell (p:=⟨4,0,O⟩) (au j e)).trans q⟩,(Lib.tabBelow_of_tabIs h.pow) w' (d.mono e)⟩
theorem LibOk.alloc(h:LibOk w)(o:Obj):LibOk (w.alloc o):=h.h (uy.alloc ux o) ux
structure CP where
 op:Int
 M:Int
 str:List UInt8
 esc:List UInt8
inductive Co where
 | leaf (p:CP)
 | un (p:CP) (x:Co)
 | bin (p:CP) (x y:Co)
def qL(s:List UInt8):List UInt8:=39::(yK s++[39])
def jJ(op:Int):List UInt8:=
 if op==6 then[65,78,68] else if op==7 then[79,82] else if op==8 then[61] else if op==10 then[60] else if op==11 then[60,61]
 else if op==16 then[43] else if op==17 then[45] else if op==18 then[42] else[47]
def qks(e:List UInt8):List UInt8:=if e.isEmpty then[] else[32,69,83,67,65,80,69,32]++qL e
def qK(p:CP)(l r:List UInt8):List UInt8:=
 if p.op==0 then p.str else if p.op==1 then Lib.itoa p.M else if p.op==2 then qL p.str else if p.op==3 then[84,82,85,69] else if p.op==4 then[70,65,76,83,69]
 else if p.op==5 then[40,78,79,84,32]++l++[41] else if p.op==23 then[40]++l++[32,73,83,32,78,85,76,76,41]
 else if p.op==22 then[40]++l++[32,76,73,75,69,32]++qL p.str++qks p.esc++[41]
 else[40]++l++[32]++jJ p.op++[32]++r++[41]
def qu:Co->List UInt8
 | .leaf p=>qK p [] []
 | .un p x=>qK p (qu x) []
 | .bin p x y=>qK p (qu x) (qu y)
def opC:Co->Int
 | .leaf p=>p.op
 | .un p _=>p.op
 | .bin p _ _=>p.op
def qr(op:Int):CP:=⟨op,0,[],[]⟩
def yy(op:Int):Bool:=op==6||op==7||op==8||op==16||op==18
def qq(op:Int)(x y:Co):Co:=if yy op&&Op.bytesLess (qu y) (qu x) then .bin (qr op) y x else .bin (qr op) x y
def vj:Co->Co
 | .leaf p=>if p.op==3 then .leaf (qr 4) else if p.op==4 then .leaf (qr 3) else .un (qr 5) (.leaf p)
 | .un p x=>if p.op==5&&opC x != 0 then x else .un (qr 5) (.un p x)
 | .bin p x y=>if p.op==6 then qq 7 (vj x) (vj y) else if p.op==7 then qq 6 (vj x) (vj y)
   else if p.op==10 then qq 11 y x else if p.op==11 then qq 10 y x else .un (qr 5) (.bin p x y)
def vl(s:List UInt8):Co:=.leaf ⟨2,0,s,[]⟩
def gO(n:Int):Co:=.leaf ⟨1,n,[],[]⟩
def zC(x:Co):Co->List (List UInt8)->Co
 | f,[]=>f
 | f,t::r=>zC x (qq 7 f (qq 8 x (vl t))) r
def vw(ts:List (List UInt8)):List (List UInt8):=Lib.compact (ts.mergeSort λx y=>decide (x<=y))
def vO(x:Co)(ts:List (List UInt8)):Co:=match vw ts with
 | []=>x
 | t::r=>zC x (qq 8 x (vl t)) r
def yt(p:Pay):CP:=⟨p.op,p.M,p.str,p.esc⟩
def qj:Ast->Co
 | .leaf p=>.leaf (yt p)
 | .un p x=>if p.op==14 then qq 16 (gO 0) (qj x) else if p.op==15 then qq 17 (gO 0) (qj x) else if p.op==5 then vj (qj x)
   else if p.op==21 then vO (qj x) p.i else .un (yt p) (qj x)
 | .bin p x y=>if p.op==12 then qq 10 (qj y) (qj x) else if p.op==13 then qq 11 (qj y) (qj x) else if p.op==9 then vj (qq 8 (qj x) (qj y)) else qq p.op (qj x) (qj y)
 | .tri _ x y z=>qq 6 (qq 11 (qj y) (qj x)) (qq 11 (qj x) (qj z))
structure CellsC(uc E:Nat)(w:Ao)(b:Nat)(p:CP)(l r:Ap)(t:List UInt8):Prop where
 lo:uc<=b
 hi:b<E
 within:b<w.1.size
 c0:w.cell? ⟨b,0,O⟩=G (I J p.op)
 c1:w.cell? ⟨b,1,O⟩=G l
 c2:w.cell? ⟨b,2,O⟩=G r
 c3:w.cell? ⟨b,3,O⟩=G (I J p.M)
 c4:w.cell? ⟨b,4,O⟩=G (Y (BS p.str))
 c5:w.cell? ⟨b,5,O⟩=G (Y (BS p.esc))
 c6:w.cell? ⟨b,6,O⟩=G (Y (BS t))
def vji:Ap:=Ag O
def at0(b:Nat):Ap:=Ag (G (D b 0 O))
def CoAt(uc E:Nat)(w:Ao)(v:Ap):Co->Prop
 | .leaf p=>∃b,v=at0 b/\CellsC uc E w b p vji vji (qu (.leaf p))
 | .un p x=>∃b vx,v=at0 b/\CellsC uc E w b p vx vji (qu (.un p x))/\CoAt uc E w vx x
 | .bin p x y=>∃b vx vy,v=at0 b/\CellsC uc E w b p vx vy (qu (.bin p x y))/\CoAt uc E w vx x/\CoAt uc E w vy y
theorem CellsC.keep{p:CP}{l r:Ap}{t:uk}(h:CellsC uc E w b p l r t)(j:E<=E')(e:∀k,uc<=k->k<E->w'.1[k]?=w.1[k]?)(d:Z w.1<=Z w'.1):CellsC uc E' w' b p l r t:=by
 grind[World.cell?,CellsC]
theorem CoAt.keep(r:E<=E')(q:∀k,uc<=k->k<E->w'.1[k]?=w.1[k]?)(j:Z w.1<=Z w'.1):∀{c:Co} {v:Ap},CoAt uc E w v c->CoAt uc E' w' v c:=by
 intro c
 induction c with
 | leaf p=>grind[CellsC.keep,CoAt]
 | un p x ih=>rintro v⟨b,d,rfl,h,e⟩;exact⟨b,d,rfl,h.keep r q j,ih e⟩
 | bin p x y ihx ihy=>rintro v⟨b,d,u,rfl,h,e,z⟩;grind[CellsC.keep,CoAt]
theorem CoAt.h(d:Xb w w'){c:Co}(h:CoAt uc (Z w.1) w v c):CoAt uc (Z w'.1) w' v c:=
 h.keep d.size (λk _ e=>d.block k e) d.size
theorem CoAt.head{c:Co}(h:CoAt uc E w v c):∃b p l r,v=at0 b/\p.op=opC c/\CellsC uc E w b p l r (qu c):=by
 cases c with
 | leaf p=>obtain⟨b,rfl,h⟩:=h;exact⟨b,p,_,_,rfl,rfl,h⟩
 | un p x=>obtain⟨b,d,rfl,h,_⟩:=h;exact⟨b,p,_,_,rfl,rfl,h⟩
 | bin p x y=>obtain⟨b,d,e,rfl,h,_⟩:=h;exact⟨b,p,_,_,rfl,rfl,h⟩
def TextAt(w:Ao)(v:Ap)(t:List UInt8):Prop:=∃b,v=at0 b/\b<Z w.1/\w.cell? (D b 6 O)=G (Y (BS t))
theorem CoAt.K{c:Co}(h:CoAt uc E w v c):TextAt w v (qu c):=by
 obtain⟨b,p,l,r,rfl,_,h⟩:=h.head;exact⟨b,rfl,h.within,h.c6⟩
theorem qT{ts:TS}{c:Int}(d:c≠0)(h:ts.tk.Q=c):ts.toks≠[]:=by
 intro e;unfold TS.tk at h;rw[e]at h;exact d h.symm
section
variable {X:List Tk} {k o:Nat} {f f':TS->TRes}
end
def ShA:Ast->Prop
 | .leaf p=>0<=p.op/\p.op<=4
 | .un p x=>(p.op=5\/p.op=14\/p.op=15\/p.op=21\/p.op=22\/p.op=23)/\(p.op=21->p.i≠[])/\(p.op=21\/p.op=22\/p.op=23->opA x=0)/\ShA x
 | .bin p x y=>(6<=p.op/\p.op<=13\/16<=p.op/\p.op<=19)/\ShA x/\ShA y
 | .tri p x y z=>p.op=20/\ShA x/\ShA y/\ShA z
def ndA:Ast->Nat
 | .leaf _=>1
 | .un p x=>1+A p.i+ndA x
 | .bin _ x y=>1+ndA x+ndA y
 | .tri _ x y z=>1+ndA x+ndA y+ndA z
theorem vjw(k:Int):6<=qgs k/\qgs k<=13\/16<=qgs k/\qgs k<=19:=by
 have ite':∀{c:Prop} [Decidable c] {a b:Int},(6<=a/\a<=13\/16<=a/\a<=19)->(6<=b/\b<=13\/16<=b/\b<=19)->(6<=(if c then a else b)/\(if c then a else b)<=13\/16<=(if c then a else b)/\(if c then a else b)<=19):=by
  grind
 repeat refine ite' uu ?_
 decide
def Nd(f:TS->TRes):Prop:=∀ts t ts',f ts=.ok t ts'->ShA t/\ndA t+A ts'.toks<=A ts.toks
def NdT(l:Ast)(ts:TS)(t:Ast)(ts':TS):Prop:=ShA l->ShA t/\ndA t+A ts'.toks<=ndA l+A ts.toks
theorem jZ{ts:TS}(h:ts.toks≠[]):A ts.next.toks+1=A ts.toks:=by
 cases ht:ts.toks with
 | nil=>exact absurd ht h
 | cons a r=>show (A (ts.toks.tail))+1=_;rw[ht];rfl
theorem Nd.join(h:Nd f)(ts:TS)(l t:Ast)(d:TS)(j:ts.toks≠[])(e:qdk f ts l=.ok t d):NdT l ts t d:=by
 intro q;unfold qdk at e
 split at e
 .rename_i hr
  injection e with u r;subst u r;obtain⟨a,b⟩:=h _ _ _ hr;have:=jZ j;refine⟨⟨vjw _,q,a⟩, ?_⟩;show 1+ndA l+_+_<=_;omega
 cases e
theorem Nd.loop(h:Nd f)(ks:List Int)(z:ks.contains 0=uh):∀n l ts t j,qbo f ks n l ts=.ok t j->NdT l ts t j:=by
 intro n
 induction n with
 | zero=>grind[qbo,NdT]
 | succ n ih=>
  intro l ts t j q u;rw[qbo]at q
  by_cases hc:ks.contains ts.tk.Q=ui
  rw[bs hc]at q
  have r:ts.toks≠[]:=by
   intro e;have:ts.tk.Q=0:=by unfold TS.tk;rw[e];rfl
   rw[this,z]at hc;cases hc
  split at q
  rename_i y;obtain⟨a,b⟩:=h.join _ _ _ _ r y u;obtain⟨c,d⟩:=ih _ _ _ _ q a;exact⟨c,uq⟩;cases q
  grind
theorem Nd.row(h:Nd f)(ks:List Int)(r:ks.contains 0=uh):Nd (qvb f ks):=by
 intro ts t j e;unfold qvb at e
 split at e
 rename_i q;obtain⟨a,b⟩:=h _ _ _ q;obtain⟨c,d⟩:=h.loop ks r _ _ _ _ _ e a;exact⟨c,uq⟩;cases e
theorem Nd.sign(h:Nd f)(o:Int)(y:o=5\/o=14\/o=15)(ts:TS)(t:Ast)(j:TS)(q:ts.toks≠[])(d:qdl f o ts=.ok t j):ShA t/\ndA t+A j.toks<=A ts.toks:=by
 unfold qdl at d
 split at d
 cases d
 split at d
 .rename_i bG hr
  injection d with u r;subst u r;obtain⟨a,b⟩:=h _ _ _ hr;have:=jZ q;refine⟨⟨by simp only;omega,λe=>?_,λe=>?_,a⟩, ?_⟩;simp only at e;omega;simp only at e;omega;show 1+0+_+A bG.toks<=_;have e:A (tIn ts).toks=A ts.next.toks:=rfl;omega
 cases d
theorem Nd.group(h:Nd f)(ts:TS)(t:Ast)(d:TS)(e:qaa f ts=.ok t d):ShA t/\ndA t+A d.toks<=A ts.toks:=by
 grind[qaa,tIn,Nd]
theorem qfe{o:Int}{s:uk}(e:0<=o/\o<=4){ts:TS}(d:ts.toks≠[]):ShA (qt1 o n s)/\ndA (qt1 o n s)+A ts.next.toks<=A ts.toks:=by
 have:=jZ d;exact⟨e,by show 1+_<=_;omega⟩
theorem Nd.signed{g:TS->TRes}(q:Nd f)(u:Nd g):Nd (yG f g):=by
 intro ts t r d;unfold yG at d
 by_cases T9:ts.tk.Q=22
 .rw[bs T9]at d;exact q.sign 14 uq _ _ _ (qT uu T9) d
 rw[ak T9]at d
 by_cases O9:ts.tk.Q=23
 .rw[bs O9]at d;exact q.sign 15 uq _ _ _ (qT uu O9) d
 rw[ak O9]at d
 by_cases dM:ts.tk.Q=26
 .rw[bs dM]at d;exact u.group _ _ _ d
 rw[ak dM]at d
 by_cases h2:ts.tk.Q=2
 .rw[bs h2]at d;injection d with j e;subst j e;exact qfe uu (qT uu h2)
 rw[ak h2]at d
 by_cases h3:ts.tk.Q=3
 .rw[bs h3]at d;injection d with j e;subst j e;exact qfe uu (qT uu h3)
 rw[ak h3]at d
 by_cases h4:ts.tk.Q=4
 .rw[bs h4]at d;injection d with j e;subst j e;exact qfe uu (qT uu h4)
 rw[ak h4]at d
 by_cases h8:ts.tk.Q=8
 .rw[bs h8]at d;injection d with j e;subst j e;exact qfe uu (qT uu h8)
 rw[ak h8]at d
 by_cases h9:ts.tk.Q=9
 .rw[bs h9]at d;injection d with j e;subst j e;exact qfe uu (qT uu h9)
 rw[ak h9]at d;cases d
theorem vce(l:Ast)(z:opA l=0)(ts:TS)(t:Ast)(j:TS)(q:ts.toks≠[])(d:tIsNull l ts=.ok t j):NdT l ts t j:=by
 intro y;have n0:=jZ q;unfold tIsNull at d
 by_cases h7:ts.next.tk.Q=7
 .rw[bs h7]at d
  have A:=jZ (qT uu h7)
  by_cases f9:ts.next.next.tk.Q=15
  .rw[bs f9]at d;injection d with u r;subst u r
   have B:=jZ (qT uu f9);exact⟨⟨ur,λe=>by simp at e,λe=>by simp at e,⟨ur,λe=>by simp at e,λ_=>z,y⟩⟩,by show 1+0+(1+0+ndA l)+_<=_;omega⟩
  grind
 rw[ak h7]at d
 by_cases f9:ts.next.tk.Q=15
 .rw[bs f9]at d;injection d with u r;subst u r
  have A:=jZ (qT uu f9);exact⟨⟨ur,λe=>by simp at e,λ_=>z,y⟩,by show 1+0+ndA l+_<=_;omega⟩
 grind
theorem vcd(l:Ast)(u:opA l=0):∀n xs ts t d,xs≠[]->ShA l->xC l n xs ts=.ok t d->ShA t/\ndA t+A d.toks<=1+A xs+ndA l+A ts.toks:=by
 intro n
 induction n with
 | zero=>grind[xC]
 | succ n ih=>
  intro xs ts t d r j e;rw[xC]at e
  by_cases R8:ts.tk.Q=28
  rw[bs R8]at e;have q:=jZ (qT uu R8)
  by_cases h4:ts.next.tk.Q=4
  rw[bs h4]at e;have B:=jZ (qT uu h4);obtain⟨a,b⟩:=ih _ _ _ _ ur j e;refine⟨a, ?_⟩;rw[cd]at b;simp only[dj]at b;omega
  grind
  rw[ak R8]at e
  by_cases dL:ts.tk.Q=27
  rw[bs dL]at e;injection e with z y;subst z y;have q:=jZ (qT uu dL);exact⟨⟨ur,λ_=>r,λ_=>u,j⟩,by grind[ndA]⟩
  grind
theorem vwt(l:Ast)(r:opA l=0)(ts:TS)(t:Ast)(d:TS)(j:ts.toks≠[])(e:tInRes l ts=.ok t d):NdT l ts t d:=by
 intro q;have n0:=jZ j;unfold tInRes at e
 by_cases dM:ts.next.tk.Q=26
 rw[bs dM]at e;have y:=jZ (qT uu dM)
 by_cases h4:ts.next.next.tk.Q=4
 rw[bs h4]at e;have u:=jZ (qT uu h4);obtain⟨a,b⟩:=vcd l r _ _ _ _ _ ur q e;simp only[dj]at b;exact⟨a,uq⟩
 grind
 grind
theorem vrt(l:Ast)(z:opA l=0)(ts:TS)(t:Ast)(j:TS)(q:ts.toks≠[])(d:tLike l ts=.ok t j):NdT l ts t j:=by
 intro y;have n0:=jZ q;have C:=qV ts.next;have B:=qV ts.next.next;have A:=qV ts.next.next.next;unfold tLike at d
 split at d
 split at d
 split at d
 injection d with u r;subst u r;exact⟨⟨ur,λe=>by simp at e,λ_=>z,y⟩,by grind[ndA]⟩;cases d;injection d with u r;subst u r;exact⟨⟨ur,λe=>by simp at e,λ_=>z,y⟩,by grind[ndA]⟩;cases d
theorem Nd.between(h:Nd f)(l:Ast)(ts:TS)(t:Ast)(j:TS)(e:xI f l ts=.ok t j):NdT l ts t j:=by
 intro q;unfold xI at e
 by_cases S7:ts.tk.Q=10
 rw[bs S7]at e;have n0:=jZ (qT uu S7)
 split at e
 rename_i A z;obtain⟨a,b⟩:=h _ _ _ z
 split at e
 split at e
 rename_i y;obtain⟨c,d⟩:=h _ _ _ y;have B:=qV A;injection e with u r;subst u r;exact⟨⟨rfl,q,a,c⟩,by grind[ndA]⟩;cases e;cases e;cases e
 grind
theorem Nd.keyword(h:Nd f)(bare:Bool)(l:Ast)(j:bare=ui->opA l=0)(ts:TS)(t:Ast)(e:TS)(d:zt f bare l ts=.ok t e):NdT l ts t e:=by
 unfold zt at d
 split at d
 .rename_i g;exact vwt _ (j g.2) _ _ _ (qT uu g.1) d
 split at d
 rename_i g;exact vrt _ (j g.2) _ _ _ (qT uu g.1) d;exact h.between _ _ _ _ d
theorem Nd.test(h:Nd f):Nd (qh0 f):=by
 intro ts t q j;unfold qh0 at j
 split at j
 .rename_i bG hr
  obtain⟨a,b⟩:=h _ _ _ hr
  suffices hs:∀l,ShA l->qgz f (ts.tk.Q==2&&opA l==0) l bG=.ok t q->NdT l bG t q by
   obtain⟨c,d⟩:=hs _ a j a;exact⟨c,uq⟩
  intro l y j;have z:(ts.tk.Q==2&&opA l==0)=ui->opA l=0:=λe=>by grind
  unfold qgz at j
  split at j
  .rename_i g
   refine h.join _ _ _ _ ?_ j;obtain e|e|e|e|e|e:=g<;>exact qT uu e
  split at j
  .rename_i g
   split at j
   rename_i A;exact vce _ (z A) _ _ _ (qT uu g) j;injection j with u r;subst u r;exact λ_=>⟨y,ux⟩
  split at j
  .rename_i g
   have n0:=jZ (qT uu g)
   split at j
   .rename_i hk
    injection j with u r;subst u r;intro y;obtain⟨c,d⟩:=h.keyword _ _ z _ _ _ hk y;exact⟨⟨ur,λe=>by simp at e,λe=>by simp at e,c⟩,by show 1+0+_+_<=_;omega⟩
   cases j
  split at j
  grind[Nd.keyword]
  injection j with u r;subst u r;exact λ_=>⟨y,ux⟩
 cases j
theorem Nd.denied{j e:TS->TRes}(u:Nd j)(r:Nd e):Nd (ku j e):=by
 intro ts t q d;unfold ku at d
 split at d
 rename_i g;exact u.sign 5 uq _ _ _ (qT uu g) d;exact r _ _ _ d
structure Nd3(L:T3):Prop where
 S:Nd L.S
 D:Nd L.D
 E:Nd L.E
theorem vv4{L:T3}(h:Nd3 L):Nd3 (tUp L):=by
 have d:=Nd.signed h.S h.E;have j:=((d.row [24,25] rfl).row [22,23] rfl).test;have e:=Nd.denied h.D j;exact⟨d,e,(e.row [5] rfl).row [6] rfl⟩
theorem vns:∀d,Nd3 (vvv d):=by
 intro d
 induction d with
 | zero=>exact vv4 ⟨(λ_ _ _ h=>by cases h),(λ_ _ _ h=>by cases h),(λ_ _ _ h=>by cases h)⟩
 | succ d ih=>exact vv4 ih
theorem vuz{L:List Tk}(h:Lx l L):A L<=A l:=by
 induction h<;>grind[vcf,vq,qcc]
theorem qv7:∀t,ShA (xw t)->ShA t:=by
 intro t
 induction t with
 | leaf p=>exact λh=>h
 | un p x ih=>exact λh=>⟨h.1,h.2.1,λe=>by rw[<-qnd];exact h.2.2.1 e,ih h.2.2.2⟩
 | bin p x y ihx ihy=>exact λh=>⟨h.1,ihx h.2.1,ihy h.2.2⟩
 | tri p x y z ihx ihy ihz=>exact λh=>⟨h.1,ihx h.2.1,ihy h.2.2.1,ihz h.2.2.2⟩
theorem vjc:∀t,ndA (xw t)=ndA t:=by
 intro t
 induction t with
 | leaf p=>rfl
 | un p x ih=>show 1+_+ndA (xw x)=_;rw[ih];rfl
 | bin p x y ihx ihy=>grind[ndA,xw]
 | tri p x y z ihx ihy ihz=>grind[ndA,xw]
theorem vfz(h:qW s=.ok t):s.size<=200/\∃L ts,Lx (T s.data) L/\(vvv 12).E ⟨L,0⟩=.ok (xw t) ts:=by
 unfold qW at h
 by_cases hs:s.size<=200
 rw[bs hs]at h;refine⟨hs, ?_⟩;obtain⟨L,j⟩:=qj8 _ (T s.data) ux;have r:Str s (qh s st0) L:=qgf j st0 (bt _) (ee);have u:=qH s st0 (bt _);have e:=(qsz s 12).E (qh s st0) ⟨L,0⟩ u r rfl;obtain⟨y,st,ts,d,q,C,B,A⟩|⟨z,pl,d,q⟩:=e.cases
 grind[qr3]
 rw[d]at h;cases h
 grind
theorem xg(h:qW s=.ok t):ShA t/\ndA t<=200:=by
 obtain⟨j,L,ts,e,d⟩:=vfz h;obtain⟨a,b⟩:=(vns 12).E _ _ _ d;have:=vuz e
 grind[qy,vjc,qv7]
structure Ps where
 rest:List UInt8
 bad:Bool
def BytesAt(w:Ao)(lo:Nat)(v:Ap)(l:List UInt8):Prop:=
 ∃a c,v=C a (A l) c/\A l<=c/\∀(i:Nat) (x:UInt8),l[i]?=G x->∃b o,a=G (D b o O)/\b<lo/\w.cell? ⟨b,o+i,O⟩=G (I .u8 (x.toNat:Int))
theorem BytesAt.P(h:BytesAt w rb v l)(d:rb<Z w.1)(e:Kept rb w w'):BytesAt w' rb v l:=by
 grind[jY,BytesAt]
theorem BytesAt.mono{d e:Nat}(h:BytesAt w d v l)(j:d<=e):BytesAt w e v l:=by
 grind[BytesAt]
theorem BytesAt.upto(h:BytesAt w rb (C a m c) l)(n:Nat)(d:n<=A l):BytesAt w rb (C a n c) (l.take n):=by
 grind[BytesAt]
theorem BytesAt.over(h:BytesAt w rb (C a m c) l)(n:Nat)(d:n<=A l):BytesAt w rb (C (if c=n then a else a.map (λx=>x.add n)) (m - n) (c - n)) (l.drop n):=by
 grind[Addr.add,BytesAt]
structure PsAt(w:Ao)(rb:Nat)(s:Ps):Prop where
 lt:rb<w.1.size
 c0:∃v,w.cell? ⟨rb,0,O⟩=G v/\BytesAt w rb v s.rest
 c1:w.cell? ⟨rb,1,O⟩=G (Ah s.bad)
 fz:∀j,w.frozen? ⟨rb,j,O⟩=uh
theorem BytesAt.nil(w:Ao)(rb:Nat):BytesAt w rb (C O 0 0) []:=by simp[BytesAt]
def failS:Ps:=⟨[],ui⟩
def Ps.take(s:Ps)(n:Nat):List UInt8×Ps:=if n<=A s.rest then(s.rest.take n,⟨s.rest.drop n,s.bad⟩) else(List.replicate n 0,failS)
def Ps.next(s:Ps):UInt8×Ps:=((s.take 1).1.headD 0,(s.take 1).2)
def Ps.upTo(s:Ps)(most:Int):Nat×Ps:=if most<(s.next.1.toNat:Int) then(0,failS) else(s.next.1.toNat,s.next.2)
theorem PsAt.same{s:Ps}(h:PsAt w rb s)(u:rb<Z w'.1)(e:∀k,k<=rb->w'.1[k]?=w.1[k]?):PsAt w' rb s:=by
 obtain⟨C,⟨A,c0,a,c,rfl,y,B⟩,z,fz⟩:=h;have q:∀b j,b<=rb->w'.cell? (D b j O)=w.cell? (D b j O):=λb j d=>bg (w:=w) (w':=w') (a:=D b j O) (e b d)
 have r:∀b j,b<=rb->w'.frozen? (D b j O)=w.frozen? (D b j O):=λb j d=>cn (w:=w) (w':=w') (a:=D b j O) (e b d)
 refine⟨u,⟨_,(q rb 0 ux).trans c0,a,c,rfl,y,λi x F=>?_⟩,(q rb 1 ux).trans z,λj=>(r rb j ux).trans (fz j)⟩
 grind
theorem PsAt.alloc{s:Ps}(h:PsAt w rb s)(o:Obj):PsAt (w.alloc o) rb s:=by grind[PsAt.same,World.alloc,PsAt]
theorem PsAt.later{s:Ps}(h:PsAt w rb s)(hp:rb<p.block)(u:Ap):PsAt (B w p u) rb s:=
 h.same (by have:=h.lt;simp;omega) λk d=>bi w p u k uq
theorem PsAt.set{s:Ps}(h:PsAt w rb s)(hv:BytesAt w rb v l):PsAt (B w (D rb 0 O) v) rb ⟨l,s.bad⟩:=by
 obtain⟨d,⟨q,c0,_⟩,e,fz⟩:=h;exact⟨by simp;exact d,⟨v,by simp[go_sem,c0],hv.P d ((Kept.refl rb w).setCell 0 v)⟩,by simp[go_sem,e],λj=>by simp[go_sem,fz]⟩
theorem PsAt.fails{s:Ps}(h:PsAt w rb s):PsAt (B (B w (D rb 0 O) (C O 0 0)) (D rb 1 O) (Ah ui)) rb failS:=by
 obtain⟨d,⟨q,c0,_⟩,e,fz⟩:=h;exact⟨by simp;exact d,⟨C O 0 0,by simp[go_sem,c0],BytesAt.nil _ _⟩,by simp[go_sem,e,failS],λj=>by simp[go_sem,fz]⟩
theorem qfm(rb:Nat)(s:Ps)(w:Ao)(h:PsAt w rb s):
  uo 152 #[Ag (G (D rb 0 O))] w λe w'=>e=Ak (Aj #[])/\PsAt w' rb failS/\Kept rb w w':=by
 have H:=qd h;obtain⟨j,⟨d,c0,q⟩,r,fz⟩:=h;go_enter func152,ntmps152
 go_wp2
 refine ub (results_none rfl _ _ _) rfl ⟨rfl,H.fails, ?_⟩;exact((Kept.refl rb w).setCell 0 _).setCell 1 _
theorem vfk(rb:Nat)(s:Ps)(n:Nat)(w:Ao)(h:PsAt w rb s)(r:n<=A s.rest):
  uo 196 #[Ag (G (D rb 0 O)),I J n] w λe w'=>∃v,e=Ak v/\BytesAt w' (Z w'.1) v (s.rest.take n)/\PsAt w' rb ⟨s.rest.drop n,s.bad⟩/\Kept rb w w':=by
 have H:=qd h;obtain⟨z,⟨y,c0,F⟩,T,fz⟩:=h
 obtain⟨a,c,rfl,Q,q⟩:∃a c,y=C a (A s.rest) c/\A s.rest<=c/\Hid (BytesAt w rb y s.rest):=by
  obtain⟨a,c,L,K,_⟩:=id F;exact⟨a,c,L,K,qd F⟩
 have R:decide ((n:Int) > (A s.rest:Int))=uh:=ut;have U:(n:Int)<=(c:Int):=uq;have P:(n:Int)<=(A s.rest:Int):=uq;have M:=it n;have j:∀u,Kept rb w (B w (D rb 0 O) u):=λu=>(Kept.refl rb w).setCell 0 u
 have d:=(q9 q).over n r
 by_cases hcn:c=n
 .rw[bs hcn]at d
  subst hcn;rw[iz,show A s.rest - c=0 by omega]at d;have d:=qd d;go_enter func196,ntmps196
  go_wp2
  go_ret;exact⟨_,rfl,((q.upto _ r).P z (j _)).mono ut,H.set d,j _⟩
 rw[ak hcn]at d;have d:=qd d;go_enter func196,ntmps196
 go_wp2
 go_ret;exact⟨_,rfl,((q.upto n r).P z (j _)).mono ut,H.set d,j _⟩
theorem pd:(prog.info? 5).map (λi=>(i.zero,i.size,i.bytes))=G (G (I .u8 0),1,1):=uw
theorem qyn(rb:Nat)(s:Ps)(n:Nat)(w:Ao)(h:PsAt w rb s)(M:A s.rest<n)(L:n<=255):
  uo 196 #[Ag (G (D rb 0 O)),I J n] w λe w'=>∃v,e=Ak v/\BytesAt w' (Z w'.1) v (List.replicate n 0)/\PsAt w' rb failS/\Kept rb w w':=by
 have H:=qd h;obtain⟨Q,⟨y,c0,K⟩,U,fz⟩:=h
 obtain⟨a,c,rfl,R⟩:∃a c,y=C a (A s.rest) c/\A s.rest<=c:=by
  obtain⟨a,c,F,B,_⟩:=id K;exact⟨a,c,F,B⟩
 have T:decide ((n:Int) > (A s.rest:Int))=ui:=ut;have Y:=run_make_row' (P:=prog) 65 5 (I .u8 0) 1 underlying65 pd rfl J J n uq uq;go_enter func196,ntmps196
 go_wp2_with(refine be (qfm rb s _ H) ?_;rintro d⟨j,u⟩;have j:=qd j)
 go_ret;have B9:=u.size;refine⟨_,rfl,⟨G ⟨Z d.1,0,O⟩,n, ?_, ?_,λi x z=>?_⟩,j.alloc _,u.alloc _⟩;rw[List.length_replicate];rfl;rw[List.length_replicate];exact ux;obtain⟨q,r⟩:=aj.1 z;simp at q r;refine⟨Z d.1,0,rfl,ur, ?_⟩;subst r;rw[ed];exact(World.rowIs_made d (I .u8 0) n 5).cell q
theorem qfn(rb:Nat)(s:Ps)(n:Nat)(w:Ao)(h:PsAt w rb s)(d:n<=255):
  uo 196 #[Ag (G (D rb 0 O)),I J n] w λe w'=>∃v,e=Ak v/\BytesAt w' (Z w'.1) v (s.take n).1/\PsAt w' rb (s.take n).2/\Kept rb w w':=by
 grind[Ps.take,vfk,qyn]
theorem Ps.take_length(s:Ps)(n:Nat):A (s.take n).1=n:=by
 grind[Ps.take]
theorem kF(rb:Nat)(s:Ps)(w:Ao)(h:PsAt w rb s):
  uo 151 #[Ag (G (D rb 0 O))] w λe w'=>e=Ak (I .u8 (s.next.1.toNat:Int))/\PsAt w' rb s.next.2/\Kept rb w w':=by
 have ua:Hid _:=qd (qfn rb s 1 w h uu);have d:=s.take_length 1
 obtain⟨x,q⟩:∃x,(s.take 1).1=[x]:=by
  match hl:(s.take 1).1 with
  | []=>rw[hl]at d;simp at d
  | [x]=>exact⟨x,rfl⟩
  | _::_::_=>rw[hl]at d;simp at d
 have u:s.next.1=x:=by rw[Ps.next,q];rfl
 have z:s.next.2=(s.take 1).2:=rfl;rw[u,z];rw[q]at ua;go_enter func151,ntmps151
 go_wp2_with(refine ua.mono ?_;rintro e F⟨v,rfl,⟨a,c,rfl,r,A⟩,j,B⟩;obtain⟨b,o,rfl,H,y⟩:=A 0 x rfl;have j:=qd j;simp only[dj,Nat.add_zero]at y r |-)
 go_ret;exact⟨rfl,q9 j,B⟩
theorem xS(rb:Nat)(s:Ps)(m:Int)(w:Ao)(h:PsAt w rb s):
  uo 104 #[Ag (G (D rb 0 O)),I J m] w λe w'=>e=Ak (I J ((s.upTo m).1:Int))/\PsAt w' rb (s.upTo m).2/\Kept rb w w':=by
 have ua:Hid _:=qd (kF rb s w h);obtain⟨x,j⟩:=ie s.next.1;rw[j]at ua;have A:=it x.toNat;have z:(x.toNat:Int)<256:=md x.toNat_lt
 by_cases hm:m<(x.toNat:Int)
 .have hd:decide ((x.toNat:Int) > m)=ui:=by simpa using hm
  rw[Ps.upTo,j,bs hm];go_enter func104,ntmps104
  go_wp2_with(first|(go_at_call 151;refine be ua ?_;rintro u⟨d,r⟩;have d:=qd d)|(refine be (qfm rb _ _ d) ?_;rintro w2⟨q,y⟩;have q:=qd q))
  go_ret;exact⟨rfl,q9 q,r.trans y⟩
 have hd:decide ((x.toNat:Int) > m)=uh:=by simpa using hm
 rw[Ps.upTo,j,ak hm];go_enter func104,ntmps104
 go_wp2_with(refine be ua ?_;rintro u⟨d,r⟩;have d:=qd d)
 go_ret;exact⟨rfl,q9 d,r⟩
def vv5(m:Int)(k:Nat)(x:UInt8):Int:=bits .or J m (wrap64 ((x.toNat:Int) * 2 ^ (8 * k)))
def vcq(l:List UInt8):Nat->Int
 | 0=>0
 | k+1=>vv5 (vcq l k) k (l.getD k 0)
theorem qs7(rb:Nat)(s:Ps)(w:Ao)(h:PsAt w rb s):
  uo 153 #[Ag (G (D rb 0 O))] w λe w'=>e=Ak (I J (vcq (s.take 8).1 8))/\PsAt w' rb (s.take 8).2/\Kept rb w w':=by
 have ua:Hid _:=qd (qfn rb s 8 w h uu);have P:=s.take_length 8;obtain⟨l,H⟩:=ie ((s.take 8).1);rw[H]at ua P |-;obtain⟨N,B⟩:=il (A l);have d:Hid (N=8):=qd uq;have j:Hid (N=A l):=qd B;go_enter func153,ntmps153
 go_wp2_with(refine ua.mono ?_;rintro e R⟨v,rfl,⟨a,c,rfl,K,F⟩,q,Q⟩;obtain⟨b,o,rfl,U9,C⟩:=F 0 (l[0]'(md (q9 d))) (ag _);have q:=qd q;rw[<-B]at K |-;have M:Hid _:=qd F)
 go_loop [3,9] (λn i=>∃(k:Nat) (m:Int),k<=N/\i=I J k/\n=I J m/\Hid (m=vcq l k)) (λ_ i=>N - (intOf i).toNat)
 exact⟨0,0,uq,rfl,rfl,qd rfl⟩;obtain⟨k,m,Y,rfl,rfl,y⟩:=hrel
 by_cases FV:k<N
 .have cT:k<A l:=md (q9 j)
  have z:k<8:=md (q9 d)
  obtain⟨Z,T,r,_,C⟩:=q9 M k l[k] (ag _);simp at r;obtain⟨rfl,rfl⟩:=r;obtain⟨x,u⟩:=ie (l[k]);rw[u]at C;have aP:=it x.toNat;have U:(x.toNat:Int)<256:=md x.toNat_lt
  have L:Hid (vv5 m k x=vcq l (k+1)):=qd (by rw[vcq,q9 y,aq,ag cT,u];rfl)
  go_wp2
  case roundEnd=>exact⟨⟨k+1,_,uq,rfl,rfl,qd L⟩,by simp[intOf];omega⟩
 have:k=N:=uq;subst this
 go_wp2
 go_ret;refine⟨?_,q9 q,Q⟩;rw[<-q9 d,<-q9 y];rfl
theorem jA(s t:uj)(m n:Nat)(e:s.size<=m)(d:t.size<=n)(h:m+n<=9000000000):∃r,r=s++t/\r.size<=m+n/\∀w:Ao,(Op.stringOp .add s t).run prog w=.ok (Y r) w:=by grind[run_string_add_sum]
theorem jB(a b:uk):BS a++BS b=BS (a++b):=by
 constructor<;>grind
theorem vst(s:uj)(k:Nat)(h:k<s.size):s.data.toList.take (k+1)=s.data.toList.take k++[s[k]]:=by
 grind[List.take_add_one,qy,qF]
theorem vvn(s:uj)(k:Nat)(h:k<s.size):s.extract k (k+1)=BS [s[k]]:=by
 have:T (s.extract k (k+1)).data=[s[k]]:=by
  rw[Lib.extract_data,Nat.add_sub_cancel_left,cm (by rwa[qy]),qF s k h];simp
 apply ByteArray.ext
 grind[BS]
theorem vvm(c:UInt8):((c.toNat:Int)==39)=(c==39):=by
 rw[Bool.eq_iff_iff,ew,ew];constructor;intro h;apply UInt8.toNat.inj;have:c.toNat=39:=uq;rw[this];rfl;intro h;rw[h];rfl
theorem vp0(l:uk)(c:UInt8):yK (l++[c])=if c==39 then yK l++[39,39] else yK l++[c]:=by
 grind[qqq,yK]
theorem vss(l:uk):A (yK l)<=2 * A l:=by
 induction l<;>grind[yK]
theorem yD(s:uj)(O:s.size<=1000)(w:Ao):
  uo 145 #[Y s] w λe w'=>e=Ak (Y (BS (qL (T s.data))))/\w'=w:=by
 have G:=qy s;go_enter func145,ntmps145
 go_wp2
 go_loop [3,4] (λo i=>∃k:Nat,k<=s.size/\i=I J k/\o=Y (BS (39::yK (s.data.toList.take k)))) (λ_ i=>s.size - (intOf i).toNat)
 exact⟨0,bt _,rfl,rfl⟩;obtain⟨k,P,rfl,rfl⟩:=hrel;have z:=vss (s.data.toList.take k);rw[cw,G]at z;obtain⟨B,d⟩:=ie (BS (39::yK (s.data.toList.take k)));have j:B.size<=2001:=by rw[<-d,qI,fj];omega
 by_cases A1:k<s.size
 .have hX:=vvn s k A1
  have y:(s.extract k (k+1)).size<=1:=by rw[hX,qI];exact ux
  have A:=vst s k A1
  cases hq:(s[k]==39) with
  | true=>
   have H:((s[k].toNat:Int)==39)=ui:=by rwa[vvm]
   obtain⟨F,r,u,L⟩:=jA B ⟨#[39]⟩ 2001 1 j ux uu;obtain⟨Z,q,C,K⟩:=jA F (s.extract k (k+1)) 2002 1 u y uu
   have D:Hid (Z=BS (39::yK (s.data.toList.take (k+1)))):=qd (by
    rw[q,r,<-d,hX,show(⟨#[39]⟩:uj)=BS [39] from rfl,jB,jB,A,vp0,bs hq,eq_of_beq hq]
    simp)
   rw[d];clear d z j hX y A hq r u q C
   go_wp2
   go_round
   case rel=>exact⟨k+1,uq,by go_num,by rw[q9 D]⟩
   simp[intOf];omega
  | false=>
   have H:((s[k].toNat:Int)==39)=uh:=by rwa[vvm]
   obtain⟨Z,q,C,K⟩:=jA B (s.extract k (k+1)) 2001 1 j y uu
   have D:Hid (Z=BS (39::yK (s.data.toList.take (k+1)))):=qd (by
    rw[q,<-d,hX,jB,A,vp0,ak (by rw[hq];decide)]
    simp)
   rw[d];clear d z j hX y A hq q C
   go_wp2
   go_round
   case rel=>exact⟨k+1,uq,by go_num,by rw[q9 D]⟩
   simp[intOf];omega
 obtain rfl:k=s.size:=uq;obtain⟨F,r,u,L⟩:=jA B ⟨#[39]⟩ 2001 1 j ux uu
 have M:Hid (F=BS (qL (T s.data))):=qd (by
  rw[r,<-d,show(⟨#[39]⟩:uj)=BS [39] from rfl,jB,fo (by rw[G];exact ux)]
  rfl)
 rw[d];clear d z j r u
 go_wp2
 go_ret;exact⟨by rw[q9 M];rfl,rfl⟩
theorem vqg(u:Nat)(h:u<=9223372036854775807):A (Lib.decDigits u)<=21:=by
 have:=Lib.itoa_length_le (u:Int) uq uq;rwa [Lib.itoa_nonneg]at this
theorem qnz:∀(u:Nat),u<=9223372036854775807->∀w:Ao,Calls prog 144 #[I J (u:Int)] w λe w'=>e=Ak (Y (BS (Lib.decDigits u)))/\Xb w w':=by
 intro u
 induction u using Nat.strongRecOn with
 | _ u ih=>
  intro L w;have hd:(UInt8.ofNat (48+u % 10)).toNat=48+u % 10:=by rw[mx];omega
  have CV:∀w:Ao,(convert 65 9 (C (G ⟨Z w.1,0,O⟩) 1 1)).run prog (w.alloc (Al #[I .u8 (48+(u:Int) % 10)] 5))=.ok (Y (BS [UInt8.ofNat (48+u % 10)])) (w.alloc (Al #[I .u8 (48+(u:Int) % 10)] 5)):=λw=>by
   have:=qts (UInt8.ofNat (48+u % 10)) w;rwa[hd,show((48+u % 10:Nat):Int)=48+(u:Int) % 10 by omega]at this
  have r:=CV w;obtain⟨S,d⟩:=ie (BS [UInt8.ofNat (48+u % 10)]);rw[d]at r
  by_cases h:u<10
  .have j:Lib.decDigits u=[UInt8.ofNat (48+u % 10)]:=by rw[Lib.decDigits_one h,Nat.mod_eq_of_lt h]
   rw[j,d];have D:(u:Int)<10:=uq;clear CV hd j ih d;go_enter func144,ntmps144
   go_wp2
   go_ret;exact⟨rfl,uy.alloc ux _⟩
  have j:Lib.decDigits u=Lib.decDigits (u / 10)++[UInt8.ofNat (48+u % 10)]:=by rw[Lib.decDigits,dif_neg h]
  have D:¬(u:Int)<10:=uq
  have z:Hid (∀w,Calls prog 144 #[I J ((u:Int) / 10)] w λe w'=>e=Ak (Y (BS (Lib.decDigits (u / 10))))/\Xb w w'):=qd λw=>by
   have:=ih (u / 10) uq uq w;rwa [show((u / 10:Nat):Int)=(u:Int) / 10 by omega]at this
  obtain⟨B,q⟩:=ie (BS (Lib.decDigits (u / 10)));obtain⟨R,y,A,M⟩:=jA B S 21 1 (by rw[<-q,qI];exact vqg _ uq) (by rw[<-d,qI];exact ux) uu;have F:Hid (BS (Lib.decDigits u)=R):=qd (by rw[j,y,<-q,<-d,jB]);rw[q]at z;rw[q9 F];clear CV hd j ih d q y A;go_enter func144,ntmps144
  go_wp2_with(go_at_call 144;refine be (z _) λK H=>?_)
  go_ret;exact⟨rfl,qg (uy.alloc ux _) H⟩
theorem qpp(x:V)(pat esc:uj)(hp:pat.size<=200)(Q:A x.str<=1000)(w:Ao):
  Calls prog 125 #[vV x,Y pat,Y esc] w λe w'=>e=Ak (vV (qb4 x (T pat.data) (T esc.data)))/\Xb w w':=by
 unfold qb4;have FIT:=qd (λw=>vif pat esc (BS x.str) hp (by rwa[qI]) w);cases hk:(x.Q==3)
 .have K:(x.Q != 3)=ui:=by simp only[bne,hk];rfl
  simp only[dk,if_false]
  conv=>arg 3;simp only[vV]
  go_enter func125,ntmps125
  go_wp2_with(refine be (zn _) λw' y=>?_;obtain⟨F,R⟩:=qi y;simp only[vV])
  refine bo (by simp[go_sem,F]<;>rfl) rfl ⟨rfl, ?_⟩;exact((((qg (qM _ _ _) y).setCell ur _).setCell ur _).setCell ur _)
 have K:(x.Q != 3)=uh:=by simp only[bne,hk];rfl
 simp only[if_true];obtain⟨r,D⟩:=ie (qmo (T pat.data) (T esc.data) x.str);have M:Hid (qmo (T pat.data) (T esc.data) (T (BS x.str).data)=r):=qd (by rwa[zW]);rw[D]
 conv=>arg 3;simp only[vV]
 go_enter func125,ntmps125
 go_wp2_with(first|(go_at_call 177;refine(FIT _).mono ?_;rw[q9 M];rintro e q⟨rfl,d⟩;have z:Z w.1+1<Z q.1:=(by have:=d.size;simp at this;omega);have G:∀i,q.cell? ⟨Z w.1+1,i,O⟩=(#[I J 0,I J 0,Y ⟨#[]⟩]:Array Ap)[i]?:=(λi=>((qi d).1 _ i ur).trans ur);have B:Xf q (Z w.1+1):=(λj=>((qi d).2 _ j ur).trans ur);have L:=qd (qg (qM _ _ _) d))|(refine be (jC r _) λw2 u=>?_;have C:∀i,w2.cell? ⟨Z w.1+1,i,O⟩=(#[I J 0,I J 0,Y ⟨#[]⟩]:Array Ap)[i]?:=(λi=>((qi u).1 _ i z).trans (G i));have P:Xf w2 (Z w.1+1):=(λj=>((qi u).2 _ j z).trans (B j));have H:=qd (qg L u);simp only[vV]))
 refine bo (by simp[go_sem,C]<;>rfl) rfl ⟨rfl, ?_⟩;exact((H.setCell ur _).setCell ur _).setCell ur _
theorem viv(j:Nat)(t:Ast)(q:(qZ t).op=21)(C:A (qZ t).i<=1000):qe7 j t:=by
 intro w b x y z _ _ _ _ h;have u:jn (qZ t) x y z=kx x (qZ t).i:=by rw[jn,ak (by rw[q];decide),bs q]
 rw[u];have AMO:=qd (λe (F:IsNode j e (Ag (G (D b 0 O))) t)=>qzl j t C e b x F);have I:=qd h;obtain⟨H,P,B,d,_⟩:=h.parts;obtain rfl:b=H:=by simpa using B
 have c0:=d.c0;have c4:=d.c4;have c5:=d.c5;have Y:=d.within;have T:b<Z w.1+1:=uq;have R:b<Z w.1+1+1:=uq;have Q:b<Z w.1+1+1+1:=uq;have U:¬Z w.1+1+1+1=Z w.1:=uq;rw[q]at c0;have K:=qd (qcf w x y z);obtain⟨r,J⟩:=ie (kx x (qZ t).i);rw[J]at AMO |-
 conv=>arg 3;simp only[vV]
 go_enter func90,ntmps90
 go_wp2_with(refine be (AMO _ (I.P (Kept.x ((jK _ _ _ _).alloc ut _)))) λe M=>?_;have L:=qd (K.next M);obtain⟨x0_1,x1_1,x2_1,y0_1,y1_1,y2_1,z0_1,z1_1,z2_1,r0_1,r1_1,r2_1,fz_1,lt_1,bel_1⟩:=q9 L;simp only[vV])
 refine bo (by simp[go_sem,r0_1,r1_1,r2_1]<;>rfl) rfl ⟨rfl, ?_⟩;exact((bel_1.setCell ut _).setCell ut _).setCell ut _
theorem viw(q:Nat)(t:Ast)(d:(qZ t).op=22)(O:A (qZ t).str<=200):qe7 q t:=by
 intro w b x y z _ _ _ u h;have B:jn (qZ t) x y z=qb4 x (qZ t).str (qZ t).esc:=by rw[jn,ak (by rw[d];decide),ak (by rw[d];decide),bs d]
 rw[B];have LIK:=qd (λj=>qpp x (BS (qZ t).str) (BS (qZ t).esc) (by rwa[qI]) u j);simp only[zW]at LIK;obtain⟨D,J,C,e,_⟩:=h.parts;obtain rfl:b=D:=by simpa using C
 have c0:=e.c0;have c4:=e.c4;have c5:=e.c5;have Q:=e.within;have M:b<Z w.1+1:=uq;have L:b<Z w.1+1+1:=uq;have K:b<Z w.1+1+1+1:=uq;have P:¬Z w.1+1+1+1=Z w.1:=uq;rw[d]at c0;have G:=qd (qcf w x y z).drew;obtain⟨r,F⟩:=ie (qb4 x (qZ t).str (qZ t).esc);rw[F]at LIK |-
 conv=>arg 3;simp only[vV]
 go_enter func90,ntmps90
 go_wp2
 go_region_with(go_at_call 125;refine be (LIK _) λj I=>?_;have H:=qd (G.next I);obtain⟨x0_1,x1_1,x2_1,y0_1,y1_1,y2_1,z0_1,z1_1,z2_1,r0_1,r1_1,r2_1,fz_1,lt_1,bel_1⟩:=q9 H;simp only[vV])
 all_goals go_wp2
 all_goals
  refine bo (by simp[go_sem,r0_1,r1_1,r2_1]<;>rfl) rfl ⟨rfl, ?_⟩;exact((bel_1.setCell ut _).setCell ut _).setCell ut _
theorem qwz(B:Nat)(t:Ast)(d:¬(qZ t).op=20)(e:¬(qZ t).op=21)(q:¬(qZ t).op=22)(H:∀x y,Rng x.M->Rng y.M->x9 (qZ t).op x y (jP (qZ t).op x y)):qe7 B t:=by
 intro w b x y z D C _ _ h;have F:jn (qZ t) x y z=jP (qZ t).op x y:=by rw[jn,ak d,ak e,ak q]
 rw[F];have CON:=qd (H x y D C);obtain⟨J,P,G,A,_⟩:=h.parts;obtain rfl:b=J:=by simpa using G
 have c0:=A.c0;have I1:=A.within;have T:b<Z w.1+1:=uq;have R:b<Z w.1+1+1:=uq;have Q:b<Z w.1+1+1+1:=uq;obtain⟨op,L⟩:=ie ((qZ t).op);rw[L]at c0 d e q CON |-;have U:(op==20)=uh:=aw.2 d;have I:(op==21)=uh:=aw.2 e;have Y:(op==22)=uh:=aw.2 q;obtain⟨r,K⟩:=ie (jP op x y);rw[K]at CON |-
 conv=>arg 3;simp only[vV]
 go_enter func90,ntmps90
 go_wp2
 go_region_with(go_at_call 126;refine be (CON _) λu j=>?_;have O:Xb w u:=qg (((jK _ _ _ _).alloc ut _).drew) j;obtain⟨M,G4⟩:=qi j;have B9:Z w.1+3<Z u.1:=(by have:=j.size;simp at this;omega);simp only[vV])
 all_goals go_wp2
 all_goals refine bo (by simp[go_sem,M]<;>rfl) rfl ⟨rfl, ?_⟩
 all_goals exact((O.setCell ut _).setCell ut _).setCell ut _
def Bq(p:Pay):Prop:=A p.esc<=1/\∀x∈p.i,A x<=200
def BqA:Ast->Prop
 | .leaf p=>Bq p
 | .un p x=>Bq p/\BqA x
 | .bin p x y=>Bq p/\BqA x/\BqA y
 | .tri p x y z=>Bq p/\BqA x/\BqA y/\BqA z
theorem bq0(op pl num:Int):Bq ⟨op,pl,num,[],[],[]⟩:=⟨ur,ur⟩
theorem bq1{num:Int}{s:uk}:Bq ⟨op,pl,num,s,[],[]⟩:=⟨ur,ur⟩
theorem vwf(H:s.size<=200):QC s BqA λk=>A k.str<=200:=
 ⟨H,qpd H,λ_ _=>⟨λ_=>bq1,bq0 _ _ _,bq1,bq0 _ _ _,bq0 _ _ _⟩,λ_ _ _ _ h=>⟨bq0 _ _ _,h⟩,λ_ _ _ a b=>⟨bq0 _ _ _,a,b⟩,λ_ _ _ _ a b c=>⟨bq0 _ _ _,a,b,c⟩,λ_ _ _ _ d h=>⟨⟨ur,λx m=>by grind⟩,h⟩,λ_ _ _ _ _ e h=>⟨⟨by grind,ur⟩,h⟩⟩
structure Bz(p:Pay):Prop where
 j:p.op=0->p.M=0/\p.esc=[]/\kD p.str=ui
 M:p.op=1->0<=p.M/\p.str=[]/\p.esc=[]
 K:p.op=2->p.M=0/\p.esc=[]
 bare:p.op=3\/p.op=4\/p.op=5\/p.op=23->p.M=0/\p.str=[]/\p.esc=[]
 like:p.op=22->p.M=0/\(p.esc=[]\/A p.esc=1/\(xo p.esc p.str).isSome=ui)
def BzA:Ast->Prop
 | .leaf p=>Bz p
 | .un p x=>Bz p/\BzA x
 | .bin p x y=>Bz p/\BzA x/\BzA y
 | .tri p x y z=>Bz p/\BzA x/\BzA y/\BzA z
theorem bz0(h:op≠0):Bz ⟨op,pl,0,[],[],[]⟩:=by grind[Bz]
theorem vq4{s:uk}(h:kD s=ui):Bz ⟨0,pl,0,s,[],[]⟩:=by
 grind[Bz]
theorem vuc(h:0<=n):Bz ⟨1,pl,n,[],[],[]⟩:=by
 grind[Bz]
theorem vq5{s:uk}:Bz ⟨2,pl,0,s,[],[]⟩:=by
 grind[Bz]
theorem vhb:Bz ⟨21,pl,0,[],[],ts⟩:=by
 grind[Bz]
theorem vwi{s e:uk}(h:e=[]\/A e=1/\(xo e s).isSome=ui):Bz ⟨22,pl,0,s,e,[]⟩:=by
 grind[Bz]
theorem vs4(k:Int):qgs k≠0:=by
 unfold qgs
 repeat' split
 all_goals decide
theorem qsu(p:UInt8->Bool):∀(l:uk) (n:Nat),n<=qD p l->qD p (l.take n)=n:=by
 intro l
 induction l with
 | nil=>grind[qD]
 | cons c t ih=>
  intro n h
  cases n with
  | zero=>rfl
  | succ n =>grind[qD]
theorem vrp(h:(vk l).Q=2):kD (vk l).str=ui:=by
 cases l with
 | nil=>simp[vk,qk]at h
 | cons c t=>
  by_cases d:km c=ui
  have e:vk (c::t)=jk (c::t):=by simp[vk,d]
  rw[e]at h |-
  by_cases hw:yI ((c::t).take (qE (c::t)))=2
  have j:jk (c::t)=⟨2,0,(c::t).take (qE (c::t))⟩:=by unfold jk;rw[bs hw]
  rw[j];have q:qE (c::t)=qD gK t+1:=by simp[qE,d]
  have r:qE ((c::t).take (qE (c::t)))=qE (c::t):=by
   rw[q,List.take_succ_cons];simp only[qE,d,if_true];rw[qsu gK t _ ux]
  have u:=xE (c::t);unfold kD;simp only[r,hw,cw];rw[mg u];simp[q];have j:jk (c::t)=qk (yI ((c::t).take (qE (c::t)))):=by unfold jk;rw[ak hw]
  rw[j]at h;exact absurd h hw;exfalso;have d:km c=uh:=by simpa using d
  by_cases hd:jx c=ui
  have e:vk (c::t)=yj (c::t):=by simp[vk,d,hd]
  rw[e]at h;unfold yj at h
  split at h
  simp at h;simp[qk]at h;have hd:jx c=uh:=by simpa using hd
  by_cases hq:(c==39)=ui
  have e:vk (c::t)=vY (c::t):=by simp[vk,d,hd,hq]
  rw[e]at h;unfold vY at h
  split at h
  simp at h;simp[qk]at h;have hq:(c==39)=uh:=by simpa using hq
  have e:vk (c::t)=qk (yd (c::t)):=by simp[vk,d,hd,hq]
  rw[e]at h;have h:yd (c::t)=2:=h;unfold yd at h
  split at h
  omega;unfold qj9 at h
  all_goals omega
theorem vv7:0<=(vk l).M:=by
 cases l<;>grind[vk,qk,jk,yj,vY]
def TkZ(k:Tk):Prop:=(k.Q=2->kD k.str=ui)/\0<=k.M
theorem vmt(s:uj)(st:St):TkZ (qh s st).tk:=by
 show TkZ (qQ _ _)
 grind[qQ,vrp,vv7,qk,TkZ]
theorem vwh(H:s.size<=200):QC s BzA TkZ:=
 ⟨H,vmt s,λ_ h=>⟨λe=>vq4 (h.1 e),vuc h.2,vq5,bz0 uu,bz0 uu⟩,λ_ _ _ e h=>⟨bz0 uq,h⟩,λ_ _ _ a b=>⟨bz0 (vs4 _),a,b⟩,λ_ _ _ _ a b c=>⟨bz0 uu,a,b,c⟩,λ_ _ _ _ _ h=>⟨vhb,h⟩,λ_ _ _ _ _ e h=>⟨vwi e,h⟩⟩
theorem qcd{Q:Ast->Prop}{ua:Tk->Prop}(c:s.size<=200->QC s Q ua)(h:qW s=.ok t):Q t:=by
 unfold qW at h
 split at h
 .rename_i hs
  split at h
  cases h;rename_i d;unfold qr3 at h
  repeat' split at h
  all_goals cases h
  exact((vnn (c hs) 12).2.2 _ _ _ ((c hs).tk _) d).1
 cases h
theorem qc7(h:qW s=.ok t):BzA t:=qcd vwh h
def RowB(w W:Ao)(g n:Nat)(f:Nat->Bool):Prop:=BoolsAt W g n f/\Below (Z w.1) w W/\g<Z W.1
theorem RowB.drewN{g n:Nat}{f:Nat->Bool}(h:RowB w W g n f)(k:Nat):RowB w (W.drewN k) g n f:=⟨h.1,eg h.2.1 _,h.2.2⟩
structure NowAt(w W:Ao)(g nb:Nat)(pc:Pc)(ua:List UInt8)(f:Nat->Bool)(n i:Nat):Prop where
 row:W.rowIs nb 4 (n+1) (λj=>Ah (if j<i then nextB pc ua f j else uh))
 old:BoolsAt W g n f
 bel:Below w.1.size w W
 lt:nb<W.1.size
 glt:g<nb
section
variable {w W:Ao} {g nb n i:Nat} {pc:Pc} {ua:uk} {f:Nat->Bool}
theorem NowAt.drewN(h:NowAt w W g nb pc ua f n i)(k:Nat):NowAt w (W.drewN k) g nb pc ua f n i:=⟨h.row,h.old,eg h.bel _,h.lt,h.glt⟩
theorem NowAt.skip(h:NowAt w W g nb pc ua f n i)(hv:nextB pc ua f i=uh):NowAt w W g nb pc ua f n (i+1):=by
 grind[NowAt]
theorem NowAt.set(h:NowAt w W g nb pc ua f n i)(e:Z w.1<=nb)(v:Bool)(hv:nextB pc ua f i=v):NowAt w (B W (D nb i O) (Ah v)) g nb pc ua f n (i+1):=by
 refine⟨(h.row.set i (Ah v)).congr λj _=>?_,λj d=>?_,h.bel.setCell e _,by simpa using h.lt,h.glt⟩
 grind
 exact(bg (w:=W) (a:=D g j O) (bi W ⟨nb,i,O⟩ _ g (by grind[NowAt]))).trans (h.old j d)
theorem NowAt.done(h:NowAt w W g nb pc ua f n i)(e:i=n+1):RowB w W nb n (nextB pc ua f):=by
 refine⟨λj d=>?_,h.bel,h.lt⟩;rw[h.row.cell (i:=j) uq,bs uq]
theorem RowB.start(h:RowB w W g n f)(pc:Pc)(ua:uk):NowAt w (W.alloc (Al (madeCells #[Ah uh] (n+1)) 4)) g (Z W.1) pc ua f n 0:=by
 refine⟨(World.rowIs_made W (Ah uh) (n+1) 4).congr λj _=>by grind,λj d=>?_,h.2.1.alloc h.2.1.size _,ur,h.2.2⟩;rw[bj _ _ _ h.2.2];exact h.1 j d
theorem veb(w:Ao)(n:Nat):RowB w (w.alloc (Al ((madeCells #[Ah uh] (n+1)).setIfInBounds 0 (Ah ui)) 4)) (Z w.1) n (λj=>j==0):=by
 refine⟨λj r=>?_,uy.alloc ux _,ur⟩;have e:((madeCells #[Ah uh] (n+1)).setIfInBounds 0 (Ah ui)).size=n+1:=by rw[Array.size_setIfInBounds];exact size_madeCells _ _
 have q:=World.rowIs_alloc w ((madeCells #[Ah uh] (n+1)).setIfInBounds 0 (Ah ui)) 4 (λj=>Ah (j==0)) (λi d=>by
  rw[e]at d;rw[rp]
  by_cases h0:i=0
  grind
  rw[ak (λh=>h0 h.symm)]
  simp[madeCells,d,Nat.mod_one,h0])
 exact q.cell (i:=j) uq
end
theorem qjd{f:Nat->Bool}{c:UInt8}{i:Nat}(h:i<s.size):nextB ⟨0,c⟩ (T s.data) f (i+1)=(f i&&(s[i]==c)):=by rw[<-vb6 s i h];rfl
theorem vdw(s p e:uj)(hs:s.size<=1000)(hp:p.size<=1000){ps:List Pc}(hcut:xo (T e.data) (T p.data)=G ps)(w:Ao):
  uo 190 #[Y s,Y p,Y e] w λen w'=>en=Ak (Ah (kZ ps (T s.data) λj=>j==0))/\Xb w w':=by
 obtain⟨R,hR⟩:=ie (kZ ps (T s.data) (λj=>j==0));rw[hR];have NU:∀w,(Instr.makeSlice 263 (I J ((s.size:Int)+1)) (I J ((s.size:Int)+1))).run prog w=.ok (C (G ⟨Z w.1,0,O⟩) (s.size+1) (s.size+1)) (w.alloc (Al (madeCells #[Ah uh] (s.size+1)) 4)):=λw=>run_make_row' (P:=prog) 263 4 (Ah uh) 1 underlying263 qew rfl J J (s.size+1) uq uq w
 have oN:Hid (R=kZ ps (T s.data) (λj=>j==0)):=qd hR.symm;have oU:Hid (xo (T e.data) (p.data.toList.drop 0)=G ps):=qd hcut;have mG:=World.rowIs_made w (Ah uh) (s.size+1) 4;have BX:=mG.cell (i:=0) uq;have uB:=mG.frozen 0;have ST:=qd (veb w s.size);go_enter func190,ntmps190
 go_wp2
 go_loopw [7,8] (λv i wr=>∃(k:Nat) (K:List Pc) (f:Nat->Bool) (g:Nat),k<=p.size/\i=I J k/\v=C (G (D g 0 O)) (s.size+1) (s.size+1)/\Hid (xo (T e.data) (p.data.toList.drop k)=G K)/\Hid (R=kZ K (T s.data) f)/\Hid (RowB w wr g s.size f)) (λ_ i _=>p.size - (intOf i).toNat)
 exact⟨0,ps,_,_,bt _,rfl,rfl,oU,oN,ST⟩;obtain⟨k,K,f,g,hk,rfl,rfl,HC,HR,y⟩:=hrel;have aL:=(q9 y).2.2
 by_cases A1:k<p.size
 .have dH:p.data.toList[k]?=G p[k]:=by rw[ag (by rwa[qy]),qF p k A1]
  have Z9:=it k;have A5:=je k p.size
  by_cases F:e.data.toList.head?=G p[k]
  .have hl:k+1<p.size:=by
    apply Decidable.byContradiction;intro hn;have z:=q9 HC;rw[qen dH F (by rw[qy];omega)]at z;cases z
   have lR:p.data.toList[k+1]?=G p[k+1]:=by rw[ag (by rwa[qy]),qF p (k+1) hl]
   obtain⟨H,AY,J4⟩:∃H,Hid (xo (T e.data) (p.data.toList.drop (k+2))=G H)/\Hid (R=kZ H (T s.data) (nextB ⟨0,p[k+1]⟩ (T s.data) f)):=by
    have z:=q9 HC;rw[qin dH F lR]at z;obtain⟨q,h2,h3⟩:=Option.map_eq_some_iff.1 z;exact⟨q,qd h2,qd (by rw[q9 HR,<-h3];rfl)⟩
   have L:0<e.size:=by
    apply Decidable.byContradiction;intro hn;have:e=⟨#[]⟩:=by cases e with|mk d=>simp[ByteArray.size]at hn;simp[hn]
    subst this;simp at F
   have CJ:e.data.toList.head?=G e[0]:=by
    have:=ag (l:=T e.data) (i:=0) (by rwa[qy]);rw[qF e 0 L]at this;rw[rm];exact this
   have I0:((p[k].toNat:Int)==(e[0].toNat:Int))=ui:=by rw[kO,ew];rw[CJ]at F;injection F with F;exact F.symm
   have hne:=qbs L;have ZI:=lq e.size;have lC:(k:Int)+1<(p.size:Int):=uq;have FO:(0:Int)<=(k:Int)+1:=uq
   go_wp2
   go_cut [9] (λs9 wx=>s9=Ah ui/\Hid (RowB w wx g s.size f))
   case first=>
    go_quiet (fail)
    go_wp2
    go_meet
    exact⟨rfl,qd (y.drewN _)⟩
   obtain⟨rfl,y⟩:=hcut;have aL:=(q9 y).2.2
   go_wp2
   obtain⟨nb,fB⟩:=ie (Z wc.1);rw[fB]
   go_loopw [11] (λi wq=>∃j:Nat,j<=s.size+1/\i=I J j/\Hid (NowAt w wq g nb (⟨0,p[k+1]⟩) (T s.data) f s.size j)) (λi _=>s.size+1 - (intOf i).toNat)
   exact⟨0,bt _,rfl,qd (by have:=(q9 y).start (⟨0,p[k+1]⟩) (T s.data);rwa[fB]at this)⟩;obtain⟨j,hj,rfl,u⟩:=hrel;have M:Z w.1<=nb:=md ((q9 y).2.1.size)
   have sA:=(q9 u).lt;have hgn:=(q9 u).glt;have ng:¬g=nb:=uq;have ng2:¬nb=g:=uq
   by_cases lD:j<=s.size
   .have rf:=(q9 u).row.frozen j
    have rj:wr.cell? (D nb j O)=G (Ah uh):=by have:=(q9 u).row.cell (i:=j) uq;rw[this,ak (Nat.lt_irrefl _)]
    have oj:=(q9 u).old j lD
    cases j with
    | zero=>
     rw[show((0:Nat):Int)=0 from rfl]
     go_wp2
     go_quiet (fail)
     go_wp2
     go_roundw
     case rel=>exact⟨0+1,uq,by go_num,qd ((u.drewN _).skip (by skip;simp[nextB]))⟩
     (simp[intOf]<;>omega)
    | succ i=>
     rw[show((i+1:Nat):Int)=(i:Int)+1 from rfl];have U4:=it i;have fQ:(i:Int)+1<=(s.size:Int):=uq;have fP:=je i s.size;have GB:(0:Int)<(i:Int)+1:=uq;have Q:i<s.size:=uq;have YU:(i:Int)+1<(s.size:Int)+1:=uq;have YT:(i:Int)<(s.size:Int)+1:=uq;have U:=(q9 u).old i uq;cases hx:(p[k+1]==s[i])
     .have I0:=(kO _ _).trans hx
      go_wp2
      go_quiet (fail)
      go_wp2
      go_roundw
      case rel=>exact⟨i+1+1,uq,by go_num,qd ((u.drewN _).skip (by rw[qjd Q,show(s[i]==p[k+1])=uh by rw[Bool.beq_comm];exact hx];exact lu _))⟩
      (simp[intOf]<;>omega)
     have I0:=(kO _ _).trans hx;obtain⟨fi,B⟩:=ie (f i);rw[B]at U
     go_wp2
     go_quiet (fail)
     go_wp2
     go_roundw
     case rel=>exact⟨i+1+1,uq,by go_num,qd ((u.drewN _).set M _ (by rw[qjd Q,B,show(s[i]==p[k+1])=ui by rw[Bool.beq_comm];exact hx];exact nl _))⟩
     (simp[intOf]<;>omega)
   have KI:j=s.size+1:=uq;have hjn:¬(j:Int)<=(s.size:Int):=uq
   go_wp2
   go_roundw
   case rel=>exact⟨k+2,H,_,nb,uq,by go_num,rfl,AY,J4,qd (u.done KI)⟩
   simp[intOf];omega
  obtain⟨H,AY,J4⟩:∃H,Hid (xo (T e.data) (p.data.toList.drop (k+1))=G H)/\Hid (R=kZ H (T s.data) (nextB (vS p[k]) (T s.data) f)):=by
   have z:=q9 HC;rw[qca dH F]at z;obtain⟨q,h2,h3⟩:=Option.map_eq_some_iff.1 z;exact⟨q,qd h2,qd (by rw[q9 HR,<-h3];rfl)⟩
  go_wp2
  go_cut [9] (λs9 wx=>s9=Ah uh/\Hid (RowB w wx g s.size f))
  case first=>
   by_cases L:0<e.size
   .have CJ:e.data.toList.head?=G e[0]:=by
     have:=ag (l:=T e.data) (i:=0) (by rwa[qy]);rw[qF e 0 L]at this;rw[rm];exact this
    have I0:((p[k].toNat:Int)==(e[0].toNat:Int))=uh:=by rw[kO,aw];intro h;rw[CJ,h]at F;exact F rfl
    have hne:=qbs L;have ZI:=lq e.size
    go_quiet (fail)
    go_wp2
    go_meet
    exact⟨rfl,qd (y.drewN _)⟩
   have ZH:e=⟨#[]⟩:=by cases e with|mk d=>simp[ByteArray.size]at L;simp[L]
   subst ZH
   go_quiet (fail)
   go_wp2
   go_meet
   exact⟨rfl,qd (y.drewN _)⟩
  obtain⟨rfl,y⟩:=hcut;have aL:=(q9 y).2.2
  go_wp2
  obtain⟨nb,fB⟩:=ie (Z wc.1);rw[fB]
  go_loopw [11] (λi wq=>∃j:Nat,j<=s.size+1/\i=I J j/\Hid (NowAt w wq g nb (vS p[k]) (T s.data) f s.size j)) (λi _=>s.size+1 - (intOf i).toNat)
  exact⟨0,bt _,rfl,qd (by have:=(q9 y).start (vS p[k]) (T s.data);rwa[fB]at this)⟩;obtain⟨j,hj,rfl,u⟩:=hrel;have M:Z w.1<=nb:=md ((q9 y).2.1.size)
  have sA:=(q9 u).lt;have hgn:=(q9 u).glt;have ng:¬g=nb:=uq;have ng2:¬nb=g:=uq
  by_cases lD:j<=s.size
  .have rf:=(q9 u).row.frozen j
   have rj:wr.cell? (D nb j O)=G (Ah uh):=by have:=(q9 u).row.cell (i:=j) uq;rw[this,ak (Nat.lt_irrefl _)]
   have oj:=(q9 u).old j lD;cases h37:((p[k].toNat:Int)==37)
   .cases h95:((p[k].toNat:Int)==95)
    .skip
     cases j with
     | zero=>
      rw[show((0:Nat):Int)=0 from rfl]
      go_wp2
      go_quiet (fail)
      go_wp2
      go_roundw
      case rel=>exact⟨0+1,uq,by go_num,qd ((u.drewN _).skip (by have A:vS p[k]=⟨0,p[k]⟩:=(by simp[vS,h37,h95]);rw[A];simp[nextB]))⟩
      (simp[intOf]<;>omega)
     | succ i=>
      rw[show((i+1:Nat):Int)=(i:Int)+1 from rfl];have U4:=it i;have fQ:(i:Int)+1<=(s.size:Int):=uq;have fP:=je i s.size;have GB:(0:Int)<(i:Int)+1:=uq;have Q:i<s.size:=uq;have YU:(i:Int)+1<(s.size:Int)+1:=uq;have YT:(i:Int)<(s.size:Int)+1:=uq;have U:=(q9 u).old i uq;cases hx:(p[k]==s[i])
      .have I0:=(kO _ _).trans hx
       go_wp2
       go_quiet (fail)
       go_wp2
       go_roundw
       case rel=>exact⟨i+1+1,uq,by go_num,qd ((u.drewN _).skip (by have A:vS p[k]=⟨0,p[k]⟩:=(by simp[vS,h37,h95]);rw[A];rw[qjd Q,show(s[i]==p[k])=uh by rw[Bool.beq_comm];exact hx];exact lu _))⟩
       (simp[intOf]<;>omega)
      have I0:=(kO _ _).trans hx;obtain⟨fi,B⟩:=ie (f i);rw[B]at U
      go_wp2
      go_quiet (fail)
      go_wp2
      go_roundw
      case rel=>exact⟨i+1+1,uq,by go_num,qd ((u.drewN _).set M _ (by have A:vS p[k]=⟨0,p[k]⟩:=(by simp[vS,h37,h95]);rw[A];rw[qjd Q,B,show(s[i]==p[k])=ui by rw[Bool.beq_comm];exact hx];exact nl _))⟩
      (simp[intOf]<;>omega)
    skip
    cases j with
    | zero=>
     rw[show((0:Nat):Int)=0 from rfl]
     go_wp2
     go_quiet (fail)
     go_wp2
     go_roundw
     case rel=>exact⟨0+1,uq,by go_num,qd ((u.drewN _).skip (by have A:vS p[k]=⟨1,0⟩:=(by simp[vS,h37,h95]);rw[A];simp[nextB]))⟩
     (simp[intOf]<;>omega)
    | succ i=>
     rw[show((i+1:Nat):Int)=(i:Int)+1 from rfl];have U4:=it i;have fQ:(i:Int)+1<=(s.size:Int):=uq;have fP:=je i s.size;have GB:(0:Int)<(i:Int)+1:=uq;have Q:i<s.size:=uq;have YU:(i:Int)+1<(s.size:Int)+1:=uq;have YT:(i:Int)<(s.size:Int)+1:=uq;have U:=(q9 u).old i uq;obtain⟨fi,B⟩:=ie (f i);rw[B]at U
     go_wp2
     go_quiet (fail)
     go_wp2
     go_roundw
     case rel=>exact⟨i+1+1,uq,by go_num,qd ((u.drewN _).set M _ (by have A:vS p[k]=⟨1,0⟩:=(by simp[vS,h37,h95]);rw[A];simp[nextB,B]))⟩
     (simp[intOf]<;>omega)
   cases hfj:f j
   .rw[hfj]at oj
    cases j with
    | zero=>
     rw[show((0:Nat):Int)=0 from rfl]
     go_wp2
     go_roundw
     case rel=>exact⟨0+1,uq,by go_num,qd ((u).set M _ (by have A:vS p[k]=⟨2,0⟩:=(by simp[vS,h37]);rw[A];simp[nextB,hfj]))⟩
     (simp[intOf]<;>omega)
    | succ i=>
     rw[show((i+1:Nat):Int)=(i:Int)+1 from rfl];have U4:=it i;have fQ:(i:Int)+1<=(s.size:Int):=uq;have fP:=je i s.size;have GB:(0:Int)<(i:Int)+1:=uq;have Q:i<s.size:=uq;have YU:(i:Int)+1<(s.size:Int)+1:=uq;have YT:(i:Int)<(s.size:Int)+1:=uq;have U:=(q9 u).old i uq;obtain⟨fi,B⟩:=ie (nextB (vS p[k]) (T s.data) f i);have ni:wr.cell? (D nb i O)=G (Ah fi):=by have:=(q9 u).row.cell (i:=i) uq;rw[this,bs (du _),B]
     have JF:=qd B
     go_wp2
     go_roundw
     case rel=>exact⟨i+1+1,uq,by go_num,qd ((u).set M _ (by have q:=q9 JF;rw[show vS p[k]=⟨2,0⟩ by simp[vS,h37]]at q |-;simp[nextB,hfj,q]))⟩
     (simp[intOf]<;>omega)
   rw[hfj]at oj
   go_wp2
   go_roundw
   case rel=>exact⟨j+1,uq,by go_num,qd ((u).set M _ (by have A:vS p[k]=⟨2,0⟩:=(by simp[vS,h37]);rw[A];cases j<;>simp[nextB,hfj]))⟩
   (simp[intOf]<;>omega)
  have KI:j=s.size+1:=uq;have hjn:¬(j:Int)<=(s.size:Int):=uq
  go_wp2
  go_roundw
  case rel=>exact⟨k+1,H,_,nb,uq,by go_num,rfl,AY,J4,qd (u.done KI)⟩
  simp[intOf];omega
 have bC:k=p.size:=uq;have hl:=(q9 y).1 s.size ux
 have hps:K=[]:=by
  have z:=q9 HC;rw[bC,qim (by rw[qy];omega)]at z;injection z with z;exact z.symm
 have HRf:Hid (R=f s.size):=qd (by rw[q9 HR,hps,kZ,qy]);have uF:=jl k p.size;obtain⟨r,hr⟩:=ie (f s.size);rw[hr]at hl HRf
 go_wp2
 go_ret;exact⟨by rw[q9 HRf];rfl,y.2.1⟩
def gH(x:V)(ts:List (List UInt8))(k:Nat):V:=(ts.take k).foldl (λf t=>orV f (eqV x (tV t))) (bV uh)
theorem qq3{k:Nat}{t:uk}(h:ts[k]?=G t):gH x ts (k+1)=orV (gH x ts k) (eqV x (tV t)):=by
 grind[gH,List.take_add_one]
theorem qvr:gH x ts (A ts)=kx x ts:=by simp[gH,kx]
structure VarAt(w W:Ao)(vb:Nat)(v:V):Prop where
 c0:W.cell? ⟨vb,0,O⟩=G (I J v.Q)
 c1:W.cell? ⟨vb,1,O⟩=G (I J v.M)
 c2:W.cell? ⟨vb,2,O⟩=G (Y (BS v.str))
 fz:∀i,W.frozen? ⟨vb,i,O⟩=uh
 lt:vb<W.1.size
 bel:Below w.1.size w W
theorem VarAt.h{W':Ao}{v:V}(h:VarAt w W vb v)(d:Xb W W'):VarAt w W' vb v:=
 ⟨((qi d).1 _ _ h.lt).trans h.c0,((qi d).1 _ _ h.lt).trans h.c1,((qi d).1 _ _ h.lt).trans h.c2,λi=>((qi d).2 _ i h.lt).trans (h.fz i),au h.lt d.size,qg h.bel d⟩
theorem VarAt.new{w W:Ao}(d:Xb w W)(v:V):VarAt w (W.alloc (Al #[I J v.Q,I J v.M,Y (BS v.str)] 57)) (Z W.1) v:=
 ⟨ur,ur,ur,λi=>ur,ur,d.alloc d.size _⟩
theorem VarAt.put{v:V}(h:VarAt w W vb v)(d:Z w.1<=vb)(u:V):VarAt w (B (B (B W (D vb 0 O) (I J u.Q)) (D vb 1 O) (I J u.M)) (D vb 2 O) (Y (BS u.str))) vb u:=by
 refine⟨?_, ?_, ?_,λi=>?_,by simpa using h.lt,((h.bel.setCell d _).setCell d _).setCell d _⟩
 .simp[go_sem,h.c0]
 .simp[go_sem,h.c1]
 .simp[go_sem,h.c2]
 simp[go_sem,h.fz i]
theorem VarAt.other{e:Nat}{v:V}(h:VarAt w W vb v)(j:vb≠e)(q:Z w.1<=e)(a c d:Ap):VarAt w (B (B (B W (D e 0 O) a) (D e 1 O) c) (D e 2 O) d) vb v:=by
 grind[Below.setCell,B,World.cell?_of_block,World.frozen?_of_block,VarAt]
section
variable {w:Ao} {a N c:Int} {iv ev:Ap} {S E:uj} {neg:Bool}
theorem vet{n cap B:Nat}{L:Option Addr}(hn:0<n)(G9:b<Z w.1)(x0:Xc w b 0 (I J x.Q))(x1:Xc w b 1 (I J x.M))(x2:Xc w b 2 (Y (BS x.str)))(cB:A ts<=1000)
  (hl:∀k t,ts[k]?=G t->∃lb,L=G (D lb 0 O)/\lb<Z w.1/\Xc w lb k (Y (BS t))) :
  lz 96 #[Ai #[Y ⟨#[73,78]⟩,I J a,iv,Y S,Y E,C L (A ts) B,I J N,Ah neg,I J c],C (G (D b 0 O)) n cap,ev] w (vV (kx x ts)):=by
 obtain⟨j,sG⟩:=ie (A ts);have fL:=qd sG;rw[sG]at cB |-;have HL:=qd hl;have RT:=qd (λw=>vQ uh w);obtain⟨R,hR⟩:=ie (kx x ts);have HR:Hid (gH x ts j=R):=qd (by rw[<-q9 fL,qvr,hR]);rw[hR];go_enter func96,ntmps96
 go_wp2_with(refine be (RT _) λe A0=>?_;have H:=qd (qg (qM w _ _) A0);obtain⟨U,G4⟩:=qi A0;have B9:Z w.1+2<=Z e.1:=(by have:=A0.size;simp at this;omega);have m5:Xc e (Z w.1) 5 (C L j B):=(U _ 5 (by simp;try omega)).trans ur;have r0:Xc e (Z w.1+1) 0 (I J 0):=(U _ 0 ur).trans ur;have r1:Xc e (Z w.1+1) 1 (I J 0):=(U _ 1 ur).trans ur;have r2:Xc e (Z w.1+1) 2 (Y ⟨#[]⟩):=(U _ 2 ur).trans ur;have rz:Xf e (Z w.1+1):=(λi=>(G4 _ i ur).trans ur);simp only[vV])
 obtain⟨vb,EK⟩:=ie (Z e.1);have V0:Hid (VarAt e (e.alloc (Al #[I J (bV uh).Q,I J (bV uh).M,Y (BS (bV uh).str)] 57)) (Z e.1) (gH x ts 0)):=qd (VarAt.new uy _);rw[EK]at V0;rw[EK]
 go_loopw [8] (λi wr=>∃k:Nat,k<=j/\i=I J k/\Hid (VarAt e wr vb (gH x ts k))) (λi _=>j - (intOf i).toNat)
 exact⟨0,bt _,rfl,V0⟩;obtain⟨k,hk,rfl,d⟩:=hrel;have HVB:=qd EK;have uX:Z w.1+2<=vb:=uq;obtain⟨q,sP⟩:=qi d.bel;have lP:=(q9 d).lt;have e5:Xc wr (Z w.1) 5 (C L j B):=(q _ 5 uq).trans m5
 by_cases A1:k<j
 .obtain⟨t,ht⟩:∃t,ts[k]?=G t:=⟨_,ag (md (q9 fL))⟩
  obtain⟨lb,rfl,T0,uG⟩:=q9 HL k t ht;have HK:Hid (gH x ts (k+1)=orV (gH x ts k) (eqV x (tV t))):=qd (qq3 ht);have el:Xc wr lb k (Y (BS t)):=(q _ k uq).trans ((H.cell (p:=D lb k O) T0).trans uG);have e0:Xc wr b 0 (I J x.Q):=(q _ 0 uq).trans ((H.cell (p:=D b 0 O) G9).trans x0);have e1:Xc wr b 1 (I J x.M):=(q _ 1 uq).trans ((H.cell (p:=D b 1 O) G9).trans x1);have e2:Xc wr b 2 (Y (BS x.str)):=(q _ 2 uq).trans ((H.cell (p:=D b 2 O) G9).trans x2);have RE:=qd (λw=>qcn x (tV t) w);simp only[vV,tV]at RE;have Z9:=it k;have A5:=je k j;have q1:b<Z wr.1:=uq;have q2:b<Z wr.1+1:=uq;have q3:lb<Z wr.1:=uq;have q4:lb<Z wr.1+1:=uq;have q5:Z w.1<Z wr.1:=uq;have q6:Z w.1<Z wr.1+1:=uq;have n1:¬b=Z wr.1:=uq;have n2:¬lb=Z wr.1:=uq;have n3:¬Z w.1=Z wr.1:=uq;have n4:¬Z wr.1=b:=uq;have n5:¬Z wr.1=lb:=uq;have n6:¬Z wr.1=Z w.1:=uq;have mM:vb<Z wr.1+1:=uq;obtain⟨P,K⟩:=ie (gH x ts k);rw[K]at d HK;obtain⟨r,sR⟩:=ie (eqV x (tV t));have sQ:eqV x { Q:=3,M:=0,str:=t }=r:=sR;rw[sR]at HK;rw[sQ]at RE
  go_wp2
  go_cut [9] (λs9 wx=>∃qb,s9=Ag (G (D qb 0 O))/\Hid (VarAt e wx vb P)/\Hid (VarAt e wx qb r))
  case first=>
   go_region_held3 (λW=>Xc W b 0 (I J x.Q)/\Xc W b 1 (I J x.M)/\Xc W b 2 (Y (BS x.str))/\Xc W (Z w.1) 5 (C (G (D lb 0 O)) j B)/\Xc W lb k (Y (BS t))) (first|with_reducible assumption|go_keep) ((go_at_call 136;refine be (RE _) λw2 y=>?_;obtain⟨F,P9⟩:=qi y;have D8:Z wr.1<=Z w2.1:=(by have:=y.size;simp at this;omega);have oM:(Xc w2 b 0 (I J x.Q)/\Xc w2 b 1 (I J x.M)/\Xc w2 b 2 (Y (BS x.str))/\Xc w2 (Z w.1) 5 (C (G (D lb 0 O)) j B)/\Xc w2 lb k (Y (BS t))):=(by refine⟨(F _ _ ?_).trans ?_,(F _ _ ?_).trans ?_,(F _ _ ?_).trans ?_,(F _ _ ?_).trans ?_,(F _ _ ?_).trans ?_⟩<;>simp[*]);  have p1:¬b=Z w2.1:=uq;have p2:¬lb=Z w2.1:=uq;have p3:¬Z w.1=Z w2.1:=uq))
   all_goals
    go_wp2
    go_meet
    first
     | exact⟨_,rfl,qd ((d.h (qg uy.drew y)).h (uy.alloc ux _)),qd (VarAt.new (qg d.bel (qg uy.drew y)) _)⟩
     | exact⟨_,rfl,qd ((d.h (qg (uy.alloc ux _).drew y)).other uq d.bel.size _ _ _),qd (((VarAt.new d.bel nV).h (qg uy.drew y)).put d.bel.size _)⟩
  obtain⟨qb,rfl,z,T⟩:=hcut;have RO:=qd (λw=>ve9 P r w);simp only[vV]at RO;have v0:=(q9 z).c0;have v1:=(q9 z).c1;have v2:=(q9 z).c2;have u0:=(q9 T).c0;have u1:=(q9 T).c1;have u2:=(q9 T).c2;have vl2:=(q9 z).lt;have ql2:=(q9 T).lt
  go_wp2_with(refine be (RO _) λw3 D5=>?_;have u:=qd (z.h D5);have y0:=(q9 u).c0;have y1:=(q9 u).c1;have y2:=(q9 u).c2;have yz:=(q9 u).fz;have yl:=(q9 u).lt)
  go_roundw
  case rel=>exact⟨k+1,uq,by go_num,qd (by rw[q9 HK];exact u.put (md (q9 HVB)) _)⟩
  simp[intOf];omega
 have bC:k=j:=uq;have uF:=jl k j;obtain⟨P,K⟩:=ie (gH x ts k);have lJ:Hid (R=P):=qd (by rw[<-q9 HR,<-K,bC]);rw[K]at d;have v0:=(q9 d).c0;have v1:=(q9 d).c1;have v2:=(q9 d).c2;have t0:=(q (Z w.1+1) 0 uq).trans r0;have t1:=(q (Z w.1+1) 1 uq).trans r1;have t2:=(q (Z w.1+1) 2 uq).trans r2;have tz:Xf wr (Z w.1+1):=λi=>(sP (Z w.1+1) i uq).trans (rz i)
 have tl:Z w.1+1<Z wr.1:=uq;have nv:¬vb=Z w.1+1:=uq;have iU:=qd (qg H d.bel)
 go_wp2
 refine bo (by simp[go_sem,t0,t1,t2]<;>rfl) rfl ⟨?_, ?_⟩;rw[q9 lJ];rfl;exact(((iU.setCell ur _).setCell ur _).setCell ur _)
end
end Go.Proofs.YtmepkbgodcffoaaGreatDoor
