/- Read -/
import Derived.Test.YtfkcaldjphakpaaGreatDoorM23
import Derived.Lib.AppendIntMem
import Derived.Lib.ItoaNum
import Derived.Lib.SlicesCompact
import Derived.Test.YtfkcaldjphakpaaGreatDoorM11
import Derived.Test.YtfkcaldjphakpaaGreatDoorShelf2
import Derived.Lib.ItoaLen
set_option maxHeartbeats 32000000
set_option maxRecDepth 100000
namespace Go.Proofs.YtfkcaldjphakpaaGreatDoor
open Go.RowKit Go.Proofs.Tryz
variable{op pl:Int}{l s t:mv}{B E E' bx:Nat}{v vx vy:Value}{w w':World}
theorem ErrOk.set(h:ErrOk w){p:Addr}(e:3<p.block)(u:Value):ErrOk (w.setCell p u):=by
 obtain⟨c,ev,b,a⟩:=h;refine⟨by rw[size_setCell];exact c,ev, ?_,a⟩;rw[aw (w:=w) (w':=w.setCell p u) (bo w p u _ (by show 3≠p.block;omega))];exact b
theorem vhm(s:mu)(a:s.size<=200):(∃en pl,(lvl s 12).E (qg s st0)=.err en pl/\vj s=.err en pl)\/∃t J1,(lvl s 12).E (qg s st0)=.ok t J1/\((¬J1.tk.kind=0/\vj s=.err 2 J1.place)\/(J1.tk.kind=0/\((∃q,qs9 (qv t)=some q/\vj s=.err 4 q)\/(qs9 (qv t)=none/\vj s=.ok t)))):=by
 cases hE:(lvl s 12).E (qg s st0) with
 | err en pl=>exact .inl ⟨en,pl,rfl,by rw[vj,bh a,hE]⟩
 | ok t J1=>
  refine .inr ⟨t,J1,rfl, ?_⟩;rw[show vj s=qju t J1 by rw[vj,bh a,hE],qju]
  by_cases hk:J1.tk.kind=0
  ·refine .inr ⟨hk, ?_⟩
   rw[bh hk]
   cases hc:qs9 (qv t) with
   | none=>exact .inr ⟨rfl,rfl⟩
   | some q=>exact .inl ⟨q,rfl,rfl⟩
  ·exact .inl ⟨hk,aj hk⟩
theorem vc4(s:mu)(w:World)(n:ErrOk w)(Z:s.size<=140737488355328):
  nz 36 #[.string s] w (qyr w (vj s)):=by
 have CU:∀(fn:Fn) (first cap:Array Value) (w:World),(Instr.makeFunc fn first cap).run prog w=.ok (.func fn first cap) w:=λ_ _ _ _=>rfl
 by_cases hs:s.size<=200
 ·skip
  have J2:s.size<=140737488355328:=Z;have hb:decide ((200:Int)<(s.size:Int))=false:=cw mw;have RDY:=qd (qj3 w s n hs);have o:=qd (qj2 w s);have M:=qd (qj1 w s);have BZ:=kJ w s;have EI:=qd (qun (w.heap.size+3) s hs 12 0 rfl).E;have TX:=qd (qC s st0 (bj _));have GOOD:=qd (vau s hs);have US:Hid (∀c u,Kept (w.heap.size+3) (gl w s) c->ErrOk (c.setCell ⟨w.heap.size,0,none⟩ u)):=qd λc u y=>((qge w s n).kept y (by have:=n.1;omega)).set n.1 u
  clear n Z;rcases vhm s hs with⟨en,pl,L,z⟩|⟨t,J1,L,⟨y,z⟩|⟨y,⟨q,PQ,z⟩|⟨PQ,z⟩⟩⟩
  all_goals
   rw[z];clear z
   try have CHK:=qd (qt1 (w.heap.size+3) t (GOOD _ _ _ L))
   have J5:=qd L;clear L
   try(have HK:=qd y;clear y)
   try(have HCH:=qd PQ;clear PQ)
   go_enter_defers func36,ntmps36
   go_wp2_with(first|(go_at_call 54;refine(xV (w.heap.size+3) s st0 (gl w s) J2 (bj _) RDY.at' RDY.lt RDY.err).mono ?_;rintro e m⟨rfl,A8,I⟩;have B9:=I.size;rw[kJ]at B9;obtain⟨b,a⟩:=jG I;rw[kJ]at b a;have a0:m.cell? ⟨w.heap.size,0,none⟩=some (.pointer none):=(b _ 0 mw mw).trans o.1;have a1:m.cell? ⟨w.heap.size+1,0,none⟩=some (.int .i64 0):=(b _ 0 mw mw).trans o.2.1;have a2:m.cell? ⟨w.heap.size+2,0,none⟩=some (.int .i64 0):=(b _ 0 mw mw).trans o.2.2.1;have b0:m.frozen? ⟨w.heap.size,0,none⟩=false:=(a _ 0 mw mw).trans o.2.2.2.1;have b1:m.frozen? ⟨w.heap.size+1,0,none⟩=false:=(a _ 0 mw mw).trans o.2.2.2.2.1;have b2:m.frozen? ⟨w.heap.size+2,0,none⟩=false:=(a _ 0 mw mw).trans o.2.2.2.2.2;have Q7:=qd (RDY.kept I A8 TX);have S8:=qd I;clear A8 I b a)|(go_at_call 55;refine(EI m (qg s st0) Q7 rfl).mono ?_;rintro e c⟨O,U⟩;rw[q9 J5]at U;(first|subst U|(obtain⟨v2,rfl,F,N,K9,M6,N0⟩:=U;obtain⟨j,rfl⟩:=F.ptr;have F:=qd F;have N:=qd N;have K9:=qd K9));have D8:=O.size;obtain⟨b,a⟩:=jG O;have c0:c.cell? ⟨w.heap.size,0,none⟩=some (.pointer none):=(b _ 0 mw mw).trans a0;have c1:c.cell? ⟨w.heap.size+1,0,none⟩=some (.int .i64 0):=(b _ 0 mw mw).trans a1;have c2:c.cell? ⟨w.heap.size+2,0,none⟩=some (.int .i64 0):=(b _ 0 mw mw).trans a2;have d0:c.frozen? ⟨w.heap.size,0,none⟩=false:=(a _ 0 mw mw).trans b0;have d1:c.frozen? ⟨w.heap.size+1,0,none⟩=false:=(a _ 0 mw mw).trans b1;have d2:c.frozen? ⟨w.heap.size+2,0,none⟩=false:=(a _ 0 mw mw).trans b2;have A:=qd (S8.trans O);clear O b a a0 a1 a2 b0 b1 b2;try simp only[qU])|(go_at_call 56;(first|(refine(qfu (w.heap.size+3) s J1 0 (c.setCell ⟨w.heap.size,0,none⟩ (.pointer (some ⟨j,0,none⟩))) J2 K9.after (N.setOther (by show ¬w.heap.size=w.heap.size+3;omega) _) (by rw[size_setCell];omega) (US _ _ A) HK).mono ?_;rintro e g⟨rfl,D9,H⟩;clear D9)|(refine(qmc (w.heap.size+3) s J1 0 (c.setCell ⟨w.heap.size,0,none⟩ (.pointer (some ⟨j,0,none⟩))) (N.setOther (by show ¬w.heap.size=w.heap.size+3;omega) _) (by rw[size_setCell];omega) HK).mono ?_;rintro e g⟨rfl,H⟩));have S4:c.heap.size<=g.heap.size:=(by have:=H.size;rw[size_setCell]at this;exact this);obtain⟨b,a⟩:=jG H;rw[size_setCell]at b a;have Y:g.cell? ⟨w.heap.size,0,none⟩=some (.pointer (some ⟨j,0,none⟩)):=(b _ 0 mw mw).trans (by simp[go_sem,c0]);have X:g.cell? ⟨w.heap.size+1,0,none⟩=some (.int .i64 0):=(b _ 0 mw mw).trans (by simp[go_sem,c1]);have W:g.cell? ⟨w.heap.size+2,0,none⟩=some (.int .i64 0):=(b _ 0 mw mw).trans (by simp[go_sem,c2]);have T:g.frozen? ⟨w.heap.size,0,none⟩=false:=(a _ 0 mw mw).trans (by simp[go_sem,d0]);have S:g.frozen? ⟨w.heap.size+1,0,none⟩=false:=(a _ 0 mw mw).trans (by simp[go_sem,d1]);have R:g.frozen? ⟨w.heap.size+2,0,none⟩=false:=(a _ 0 mw mw).trans (by simp[go_sem,d2]);have C:=qd H;clear H b a c0 c1 c2 d0 d1 d2;first|simp only[tkV]|simp only[qU])|(go_at_call 57;refine(CHK g (.pointer (some ⟨j,0,none⟩)) (F.above (((Above.mk nt (λ_ _ _=>rfl)).setCell (p:=⟨w.heap.size,0,none⟩) (by show w.heap.size<=w.heap.size+3;omega) (.pointer (some ⟨j,0,none⟩))).trans C.above))).mono ?_;rintro e i⟨k,h4⟩;rw[q9 HCH]at h4;subst h4;have VV:=k.size;obtain⟨K,J⟩:=qj k;have j0:i.cell? ⟨w.heap.size,0,none⟩=some (.pointer (some ⟨j,0,none⟩)):=(K _ 0 mw).trans Y;have j1:i.cell? ⟨w.heap.size+1,0,none⟩=some (.int .i64 0):=(K _ 0 mw).trans X;have j2:i.cell? ⟨w.heap.size+2,0,none⟩=some (.int .i64 0):=(K _ 0 mw).trans W;have l0:i.frozen? ⟨w.heap.size,0,none⟩=false:=(J _ 0 mw).trans T;have l1:i.frozen? ⟨w.heap.size+1,0,none⟩=false:=(J _ 0 mw).trans S;have l2:i.frozen? ⟨w.heap.size+2,0,none⟩=false:=(J _ 0 mw).trans R;have k:=qd k;clear K J Y X W T S R;try simp only[qU]))
   refine leaves_cons (f:=53) (args:=#[.pointer (some ⟨w.heap.size,0,none⟩),.pointer (some ⟨w.heap.size+1,0,none⟩),.pointer (some ⟨w.heap.size+2,0,none⟩)]) mx (by simp[go_sem]) ?_
   first
    | (
     refine(xB w.heap.size (.pointer (some ⟨j,0,none⟩)) (.int .i64 0) (.int .i64 0) _ _ [] i mw j0 j1 j2 l0 l1 l2).mono ?_;rintro e Q P⟨rfl,rfl,x,k1,r,D⟩;have G:=qd (((C.below ((A.below M mw mw).setCell (by show w.heap.size<=w.heap.size;omega) _) mw (by rw[size_setCell];omega)).trans (k.mono mw)).trans D);simp[Leaves,settle,results,results36,go_sem,x,k1,r]
     exact⟨q9 G,rfl⟩)
    | (
     have _q:=k;refine(qpl _ _ _ _).mono ?_;rintro e Q P⟨rfl,rfl,rfl⟩;simp[Leaves,settle,results,results36,go_sem,j0,j1,j2];have A2:Above (w.heap.size+3) c i:=(((Above.mk nt (λ_ _ _=>rfl)).setCell (p:=⟨w.heap.size,0,none⟩) (by show w.heap.size<=w.heap.size+3;omega) (.pointer (some ⟨j,0,none⟩))).trans C.above).trans (Kept.of_below k).above;have B4:Xb w i:=(C.below ((A.below M mw mw).setCell (by show w.heap.size<=w.heap.size;omega) _) mw (by rw[size_setCell];omega)).trans (k.mono mw)
     exact⟨((B4.setCell (by show w.heap.size<=w.heap.size;omega) _).setCell (by show w.heap.size<=w.heap.size+1;omega) _).setCell (by show w.heap.size<=w.heap.size+1+1;omega) _,_,rfl,F.above (((A2.setCell (by show w.heap.size<=w.heap.size+3;omega) _).setCell (by show w.heap.size+1<=w.heap.size+3;omega) _).setCell (by show w.heap.size+1+1<=w.heap.size+3;omega) _)⟩)
    | (
     refine(xB w.heap.size (.pointer (some ⟨j,0,none⟩)) (.int .i64 0) (.int .i64 0) _ _ [] g mw Y X W T S R).mono ?_;rintro e Q P⟨rfl,rfl,x,k1,r,D⟩;have G:=qd ((C.below ((A.below M mw mw).setCell (by show w.heap.size<=w.heap.size;omega) _) mw (by rw[size_setCell];omega)).trans D);simp[Leaves,settle,results,results36,go_sem,x,k1,r]
     exact⟨q9 G,rfl⟩)
    | (
     refine(xB w.heap.size (.pointer none) (.int .i64 0) (.int .i64 0) _ _ [] c mw c0 c1 c2 d0 d1 d2).mono ?_;rintro e Q P⟨rfl,rfl,x,k1,r,D⟩;have G:=qd ((A.below M mw mw).trans D);simp[Leaves,settle,results,results36,go_sem,x,k1,r]
     exact⟨q9 G,rfl⟩)
 ·rw[vj,aj hs]
  have hb:decide ((200:Int)<(s.size:Int))=true:=de mw;clear n Z hs
  go_enter_defers func36,ntmps36
  go_wp2_with fail
  have q0:(((w.alloc (.cells #[.pointer none] 67)).alloc (.cells #[.int .i64 1] 41)).alloc (.cells #[.int .i64 0] 3)).cell? ⟨w.heap.size,0,none⟩=some (.pointer none):=by
   rw[bt _ _ _ nj,bt _ _ _ mx,cd _ _ _ _ rfl];rfl
  have q1:(((w.alloc (.cells #[.pointer none] 67)).alloc (.cells #[.int .i64 1] 41)).alloc (.cells #[.int .i64 0] 3)).cell? ⟨w.heap.size+1,0,none⟩=some (.int .i64 1):=by
   rw[bt _ _ _ mx,cd _ _ _ _ mx];rfl
  have q2:(((w.alloc (.cells #[.pointer none] 67)).alloc (.cells #[.int .i64 1] 41)).alloc (.cells #[.int .i64 0] 3)).cell? ⟨w.heap.size+1+1,0,none⟩=some (.int .i64 0):=by
   rw[cd _ _ _ _ mx];rfl
  simp[bodyPostD,Leaves,results,results36,go_sem,q0,q1,q2];exact⟨jS _ _ _ _,rfl⟩
def xJ:List UInt8->List UInt8
 | []=>[]
 | c::r=>if c==39 then 39::39::xJ r else c::xJ r
theorem qji(a b:mv):xJ (a++b)=xJ a++xJ b:=by
 induction a with
 | nil=>rfl
 | cons c r ih=>
  rw[cm,xJ,xJ,ih]
  split<;>rfl
theorem qn0(a:mv):(xJ a).length<=2 * a.length:=by
 induction a with
 | nil=>exact nt
 | cons c r ih=>rw[xJ];split<;>simp<;>omega
theorem qvv(r:mv)(h:∀c,r.head?=some c->(c==39)=false):ve (39::r)=some ([],1):=by
 cases r with
 | nil=>rfl
 | cons d t=>rw[ve,bh nh,aj (by rw[h d rfl];decide)]
theorem qvu(r:mv)(h:∀c,r.head?=some c->(c==39)=false)(s:mv):ve (xJ s++39::r)=some (s,(xJ s).length+1):=by
 induction s with
 | nil=>exact qvv r h
 | cons c t ih=>
  rw[xJ]
  by_cases hc:(c==39)=true
  ·rw[bh hc]
   show ve (39::39::(xJ t++39::r))=_;rw[ve,bh nh,bh nh,ih,eq_of_beq hc];rfl
  ·rw[aj hc]
   cases hd:xJ t++39::r with
   | nil=>simp at hd
   | cons d u=>
    show ve (c::(xJ t++39::r))=_;rw[hd,ve,aj hc,←hd,ih];rfl
structure LibOk(w:World):Prop where
 err:ErrOk w
 max:4<w.heap.size/\∃m,w.cell? ⟨4,0,none⟩=some (.int .i64 m)
 pow : Lib.TabIs prog w "internal/strconv.uint64pow10" .u64 Lib.pow10Tab
theorem LibOk.below(h:LibOk w)(a:Below B w w')(b:w.heap.size<=B):LibOk w':=by
 obtain⟨c,m,e⟩:=h.max;exact⟨h.err.below a b,⟨bg c (by have:=a.size;omega),m,(a.cell (p:=⟨4,0,none⟩) (bg c b)).trans e⟩,(Lib.tabBelow_of_tabIs h.pow) w' (a.mono b)⟩
theorem LibOk.alloc(h:LibOk w)(o:Obj):LibOk (w.alloc o):=h.below (nw.alloc nt o) nt
structure CP where
 op:Int
 num:Int
 str:List UInt8
 esc:List UInt8
inductive Co where
 | leaf (p:CP)
 | un (p:CP) (x:Co)
 | bin (p:CP) (x y:Co)
def qL(s:List UInt8):List UInt8:=39::(xJ s++[39])
def jo(op:Int):List UInt8:=
 if op==6 then[65,78,68] else if op==7 then[79,82] else if op==8 then[61] else if op==10 then[60] else if op==11 then[60,61]
 else if op==16 then[43] else if op==17 then[45] else if op==18 then[42] else[47]
def qg4(e:List UInt8):List UInt8:=if e.isEmpty then[] else[32,69,83,67,65,80,69,32]++qL e
def qE(p:CP)(l r:List UInt8):List UInt8:=
 if p.op==0 then p.str else if p.op==1 then Lib.itoa p.num else if p.op==2 then qL p.str else if p.op==3 then[84,82,85,69] else if p.op==4 then[70,65,76,83,69]
 else if p.op==5 then[40,78,79,84,32]++l++[41] else if p.op==23 then[40]++l++[32,73,83,32,78,85,76,76,41]
 else if p.op==22 then[40]++l++[32,76,73,75,69,32]++qL p.str++qg4 p.esc++[41]
 else[40]++l++[32]++jo p.op++[32]++r++[41]
def qp:Co->List UInt8
 | .leaf p=>qE p [] []
 | .un p x=>qE p (qp x) []
 | .bin p x y=>qE p (qp x) (qp y)
def opC:Co->Int
 | .leaf p=>p.op
 | .un p _=>p.op
 | .bin p _ _=>p.op
def qm(op:Int):CP:=⟨op,0,[],[]⟩
def xC(op:Int):Bool:=op==6||op==7||op==8||op==16||op==18
def qk(op:Int)(x y:Co):Co:=if xC op&&Op.bytesLess (qp y) (qp x) then .bin (qm op) y x else .bin (qm op) x y
def qW:Co->Co
 | .leaf p=>if p.op==3 then .leaf (qm 4) else if p.op==4 then .leaf (qm 3) else .un (qm 5) (.leaf p)
 | .un p x=>if p.op==5&&opC x != 0 then x else .un (qm 5) (.un p x)
 | .bin p x y=>if p.op==6 then qk 7 (qW x) (qW y) else if p.op==7 then qk 6 (qW x) (qW y)
   else if p.op==10 then qk 11 y x else if p.op==11 then qk 10 y x else .un (qm 5) (.bin p x y)
def qY(s:List UInt8):Co:=.leaf ⟨2,0,s,[]⟩
def kd(n:Int):Co:=.leaf ⟨1,n,[],[]⟩
def jM(x:Co):Co->List (List UInt8)->Co
 | f,[]=>f
 | f,t::r=>jM x (qk 7 f (qk 8 x (qY t))) r
def vf(ts:List (List UInt8)):List (List UInt8):=Lib.compact (ts.mergeSort λx y=>decide (x<=y))
def vt(x:Co)(ts:List (List UInt8)):Co:=match vf ts with
 | []=>x
 | t::r=>jM x (qk 8 x (qY t)) r
def xA(p:Pay):CP:=⟨p.op,p.num,p.str,p.esc⟩
def qi:Ast->Co
 | .leaf p=>.leaf (xA p)
 | .un p x=>if p.op==14 then qk 16 (kd 0) (qi x) else if p.op==15 then qk 17 (kd 0) (qi x) else if p.op==5 then qW (qi x)
   else if p.op==21 then vt (qi x) p.texts else .un (xA p) (qi x)
 | .bin p x y=>if p.op==12 then qk 10 (qi y) (qi x) else if p.op==13 then qk 11 (qi y) (qi x) else if p.op==9 then qW (qk 8 (qi x) (qi y)) else qk p.op (qi x) (qi y)
 | .tri _ x y z=>qk 6 (qk 11 (qi y) (qi x)) (qk 11 (qi x) (qi z))
structure CellsC(B E:Nat)(w:World)(b:Nat)(p:CP)(l r:Value)(t:List UInt8):Prop where
 lo:B<=b
 hi:b<E
 within:b<w.heap.size
 c0:w.cell? ⟨b,0,none⟩=some (.int .i64 p.op)
 c1:w.cell? ⟨b,1,none⟩=some l
 c2:w.cell? ⟨b,2,none⟩=some r
 c3:w.cell? ⟨b,3,none⟩=some (.int .i64 p.num)
 c4:w.cell? ⟨b,4,none⟩=some (.string (BS p.str))
 c5:w.cell? ⟨b,5,none⟩=some (.string (BS p.esc))
 c6:w.cell? ⟨b,6,none⟩=some (.string (BS t))
def vb6:Value:=.pointer none
def at0(b:Nat):Value:=.pointer (some ⟨b,0,none⟩)
def CoAt(B E:Nat)(w:World)(v:Value):Co->Prop
 | .leaf p=>∃b,v=at0 b/\CellsC B E w b p vb6 vb6 (qp (.leaf p))
 | .un p x=>∃b vx,v=at0 b/\CellsC B E w b p vx vb6 (qp (.un p x))/\CoAt B E w vx x
 | .bin p x y=>∃b vx vy,v=at0 b/\CellsC B E w b p vx vy (qp (.bin p x y))/\CoAt B E w vx x/\CoAt B E w vy y
theorem CellsC.keep{b:Nat}{p:CP}{l r:Value}(h:CellsC B E w b p l r t)(g:E<=E')(f:∀k,B<=k->k<E->w'.heap[k]?=w.heap[k]?)(e:w.heap.size<=w'.heap.size):CellsC B E' w' b p l r t:=by
 have c:∀j,w'.cell? ⟨b,j,none⟩=w.cell? ⟨b,j,none⟩:=λj=>aw (w:=w) (w':=w') (a:=⟨b,j,none⟩) (f b h.lo h.hi)
 exact⟨h.lo,bg h.hi g,bg h.within e,(c 0).trans h.c0,(c 1).trans h.c1,(c 2).trans h.c2,(c 3).trans h.c3,(c 4).trans h.c4,(c 5).trans h.c5,(c 6).trans h.c6⟩
theorem CoAt.keep(g:E<=E')(f:∀k,B<=k->k<E->w'.heap[k]?=w.heap[k]?)(a:w.heap.size<=w'.heap.size):∀{c:Co} {v:Value},CoAt B E w v c->CoAt B E' w' v c:=by
 intro c
 induction c with
 | leaf p=>rintro v⟨b,rfl,h⟩;exact⟨b,rfl,h.keep g f a⟩
 | un p x ih=>rintro v⟨b,vx,rfl,h,e⟩;exact⟨b,vx,rfl,h.keep g f a,ih e⟩
 | bin p x y ihx ihy=>rintro v⟨b,vx,vy,rfl,h,e,i⟩;exact⟨b,vx,vy,rfl,h.keep g f a,ihx e,ihy i⟩
theorem CoAt.below(a:Xb w w'){c:Co}(h:CoAt B w.heap.size w v c):CoAt B w'.heap.size w' v c:=
 h.keep a.size (λk _ b=>a.block k b) a.size
theorem CoAt.head{c:Co}(h:CoAt B E w v c):∃b p l r,v=at0 b/\p.op=opC c/\CellsC B E w b p l r (qp c):=by
 cases c with
 | leaf p=>obtain⟨b,rfl,h⟩:=h;exact⟨b,p,_,_,rfl,rfl,h⟩
 | un p x=>obtain⟨b,vx,rfl,h,_⟩:=h;exact⟨b,p,_,_,rfl,rfl,h⟩
 | bin p x y=>obtain⟨b,vx,vy,rfl,h,_⟩:=h;exact⟨b,p,_,_,rfl,rfl,h⟩
def TextAt(w:World)(v:Value)(t:List UInt8):Prop:=∃b,v=at0 b/\b<w.heap.size/\w.cell? ⟨b,6,none⟩=some (.string (BS t))
theorem CoAt.text{c:Co}(h:CoAt B E w v c):TextAt w v (qp c):=by
 obtain⟨b,p,l,r,rfl,_,h⟩:=h.head;exact⟨b,rfl,h.within,h.c6⟩
theorem qy9(x:V)(pat esc:mu)(u:pat.size<=200)(q:x.str.length<=1000)(w:World):
  Calls prog 109 #[vV x,.string pat,.string esc] w λe w'=>e=.returned (vV (qai x pat.data.toList esc.data.toList))/\Xb w w':=by
 unfold qai;have FIT:=qd (λw=>vaa pat esc (BS x.str) u (by rw[qG];exact q) w);cases hk:(x.kind==3)
 ·have C:(x.kind != 3)=true:=by simp only[bne,hk];rfl
  simp only[cu,if_false]
  conv=>arg 3;simp only[vV]
  go_enter func109,ntmps109
  go_wp2_with(go_at_call 152;refine(jI _).mono ?_;rintro e w'⟨rfl,k⟩;obtain⟨y,H⟩:=qj k;simp only[vV])
  refine ak (by simp[go_sem,y]<;>rfl) rfl ⟨rfl, ?_⟩;exact((((qf (qI _ _ _) k).setCell mx _).setCell mx _).setCell mx _)
 ·have C:(x.kind != 3)=false:=by simp only[bne,hk];rfl
  simp only[if_true];obtain⟨r,f⟩:∃r,qgx pat.data.toList esc.data.toList x.str=r:=⟨_,rfl⟩;have F:Hid (qgx pat.data.toList esc.data.toList (BS x.str).data.toList=r):=qd (by rw[xg];exact f);rw[f];clear f
  conv=>arg 3;simp only[vV]
  go_enter func109,ntmps109
  go_wp2_with(first|(go_at_call 156;refine(FIT _).mono ?_;rw[q9 F];rintro e c⟨rfl,a⟩;have m:w.heap.size+1<c.heap.size:=(by have:=a.size;simp at this;omega);have z:∀i,c.cell? ⟨w.heap.size+1,i,none⟩=(#[.int .i64 0,.int .i64 0,.string ⟨#[]⟩]:Array Value)[i]?:=(λi=>((qj a).1 _ i mx).trans mx);have n:Xf c (w.heap.size+1):=(λj=>((qj a).2 _ j mx).trans mx);have D:=qd (qf (qI _ _ _) a);clear a)|(go_at_call 64;refine(zb r _).mono ?_;rintro e g⟨rfl,b⟩;have o:∀i,g.cell? ⟨w.heap.size+1,i,none⟩=(#[.int .i64 0,.int .i64 0,.string ⟨#[]⟩]:Array Value)[i]?:=(λi=>((qj b).1 _ i m).trans (z i));have G:Xf g (w.heap.size+1):=(λj=>((qj b).2 _ j m).trans (n j));have A:=qd (qf D b);clear b;simp only[vV]))
  refine ak (by simp[go_sem,o]<;>rfl) rfl ⟨rfl, ?_⟩;exact((A.setCell mx _).setCell mx _).setCell mx _
theorem qqf(op:Int)(x y:V)(a:Rng x.num)(b:Rng y.num):zj op x y (jF op x y):=by
 by_cases Y7:op=14
 ·subst Y7;exact vge x y a
 by_cases N8:op=15
 ·subst N8;exact vgf x y a
 exact van op Y7 N8 x y a b
def Sh(v:V):Prop:=v.str.length<=1000
theorem qch(b:Bool):Sh (bV b):=bj _
theorem qci:Sh nV:=bj _
theorem vej(n:Int):Sh (iV n):=bj _
theorem qT{c:Prop}[Decidable c]{a b:V}(f:Sh a)(e:Sh b):Sh (if c then a else b):=by
 split
 ·exact f
 ·exact e
theorem qx7(op:Int)(x y:V):Sh (jF op x y):=by
 unfold jF;refine qT (qT (qch _) qci) (qT (qT (qch _) (qT (qch _) qci)) (qT (qT (qch _) (qT (qch _) qci)) (qT (qT qci (qch _)) (qT (qT (qch _) qci) (qT (qT (qch _) qci) (qT (qT (qch _) qci) (qT (qT (qch _) qci) (qT (qT (qch _) qci) (qT (qT (vej _) qci) (qT (qT (vej _) qci) (qT (qT (vej _) qci) (qT (qT (vej _) qci) (qT (qT (vej _) qci) (qT (qT (vej _) qci) (qch _)))))))))))))))
theorem vmc(x y:V):Sh (orV x y):=qT (qch _) (qT (qch _) qci)
theorem vcx(x:V)(ts:List mv):∀f:V,Sh f->Sh (ts.foldl (λf t=>orV f (eqV x (tV t))) f):=by
 induction ts with
 | nil=>intro f h;exact h
 | cons t r ih=>intro f _;exact ih _ (vmc _ _)
theorem vcy(p:Pay)(x y z:V):Sh (xr p x y z):=by
 unfold xr;refine qT (qT (qch _) (qT (qch _) qci)) (qT (vcx x _ _ (qch _)) (qT (qT (qch _) qci) (qx7 _ _ _)))
def vdq(ps:List Pr):Prop:=∀p∈ps,Sh p.val
theorem vmb{a:List Pr}(h:vdq a){p:Pay}(c:p.str.length<=200)(s:List V):Sh (ofN a p s):=by
 unfold ofN;refine qT ?_ (qT (vej _) (qT ?_ (qT (qch _) (qT (qch _) (vcy _ _ _ _)))))
 ·unfold xL
  split
  ·rename_i q b;exact h q (ls b)
  ·exact qci
 ·show p.str.length<=1000
  omega
theorem qht:∀s:mv,Lib.replaceK [39] [39,39] (Lib.count s [39]) s=xJ s:=by
 intro s
 induction s with
 | nil=>rfl
 | cons b l ih=>
  rw[xJ]
  by_cases hb:b=39
  ·subst hb
   rw[Lib.count_cons_eq,Nat.add_comm,Lib.replaceK_hit _ _ _ _ 0 (by rfl),bh (by rfl)];show[]++[39,39]++Lib.replaceK [39] [39,39] (Lib.count l [39]) l=_;rw[ih];rfl
  ·rw[Lib.count_cons_ne b 39 l hb,aj (by simpa using hb)]
   cases hc:Lib.count l [39] with
   | zero=>
    rw[hc]at ih;show b::l=b::xJ l;rw[←ih];rfl
   | succ k=>
    obtain⟨i,a⟩:=Lib.index_of_count (s:=l) (old:=[39]) (by rw[hc];omega)
    have f:Lib.index (b::l) [39]=((i+1:Nat):Int):=by
     rw[Lib.index]
     have c:([39]:mv).isPrefixOf (b::l)=false:=by
      show((39:UInt8)==b&&true)=false;rw[ig];apply ae.2;intro e;exact hb e.symm
     rw[c,aj nh,aj (by rw[a];intro e;have:=eq_of_beq e;omega),a]
     push_cast
     rfl
    rw[hc,Lib.replaceK_hit _ _ _ _ i a]at ih;rw[Lib.replaceK_hit _ _ _ _ (i+1) f,←ih];rfl
theorem qcz(s:mv):Lib.replaceAll s [39] [39,39]=xJ s:=by
 unfold Lib.replaceAll Lib.replace;rw[aj nh];unfold Lib.replaceNum;rw[bh (.inl nh)];exact qht s
theorem ji(s t:mu)(m n:Nat)(b:s.size<=m)(a:t.size<=n)(h:m+n<=9000000000):∃r,r=s++t/\r.size<=m+n/\∀w:World,(Op.stringOp .add s t).run prog w=.ok (.string r) w:=
 ⟨s++t,rfl,by rw[ByteArray.size_append];omega,λw=>run_string_add_sum (P:=prog) (w:=w) _ _ mw⟩
theorem p9(s:mv):(qL s).length<=2 * s.length+2:=by
 have:=qn0 s;unfold qL;simp;omega
theorem gn(s:mv)(n:s.length<=1000000000)(w:World)(g:LibOk w):
  nz 210 #[.string (BS s)] w λe w'=>e=.returned (.string (BS (qL s)))/\Xb w w':=by
 obtain⟨_,m,c⟩:=g.max;have f:=Lib.countB_le ⟨#[39]⟩ nh _ (BS s) nt;rw[qG]at f;have a:=Tryz.strings_ReplaceAll (BS s) ⟨#[39]⟩ ⟨#[39,39]⟩ m w (by rw[qG];omega) c nh (by rw[qG];show _+_ * 2<=_;omega);rw[show Lib.replaceAll (BS s).data.toList (⟨#[39]⟩:mu).data.toList (⟨#[39,39]⟩:mu).data.toList=xJ s from qcz s]at a;have o:Hid (nz 255 #[.string (BS s),.string ⟨#[39]⟩,.string ⟨#[39,39]⟩] w λe w'=>e=.returned (.string (BS (xJ s)))/\Xb w w'):=qd a;have hd:=qn0 s;obtain⟨r,j,b,A⟩:=ji ⟨#[39]⟩ (BS (xJ s)) 1 2000000000 nt (by rw[qG];omega) nh;obtain⟨q,i,k,z⟩:=ji r ⟨#[39]⟩ 2000000001 1 b nt nh
 have u:Hid (q=BS (qL s)):=qd (by
  rw[i,j,show(⟨#[39]⟩:mu)=BS [39] from rfl,jE,jE]
  rfl)
 clear a c g f n hd j b i k;go_enter func210,ntmps210
 go_wp2_with(go_at_call 255;refine o.mono ?_;rintro e y⟨rfl,x⟩)
 go_ret;exact⟨by rw[q9 u];rfl,x⟩
theorem pt(op:Int):(jo op).length<=3:=by
 unfold jo
 repeat' split
 all_goals decide
theorem qtk(op:Int)(w:World):
  nz 212 #[.int .i64 op] w λe w'=>e=.returned (.string (BS (jo op)))/\w'=w:=by
 go_enter func212,ntmps212
 go_wp2_with fail
 all_goals(go_ret;refine⟨?_,rfl⟩;go_light;simp only[jo, *,if_true,cu,if_false];rfl)
theorem kG(op:Int)(w:World):
  nz 164 #[.int .i64 op] w λe w'=>e=.returned (.bool (xC op))/\w'=w:=by
 go_enter func164,ntmps164
 go_wp2_with fail
 all_goals(go_ret;refine⟨?_,rfl⟩;go_light;simp only[xC, *,Bool.or_true,mn,gs];rfl)
theorem qck(b:Nat)(s:mv)(c:s.length<=1000000000)(w:World)(a:LibOk w)(r:Xc w b 5 (.string (BS s))):
  nz 211 #[at0 b] w λe w'=>e=.returned (.string (BS (qg4 s)))/\Xb w w':=by
 unfold at0 qg4
 cases he:s.isEmpty with
 | true=>
  have j:(BS s).toList.isEmpty=true:=by rw[qM];exact he
  rw[bh rfl];clear a;go_enter func211,ntmps211
  go_wp2_with fail
  go_ret;exact⟨rfl,nw⟩
 | false=>
  have j:(BS s).toList.isEmpty=false:=by rw[qM];exact he
  rw[aj nh];have n:=qd (gn s c w a);have i:=p9 s;obtain⟨k,f,g,u⟩:=ji ⟨#[32,69,83,67,65,80,69,32]⟩ (BS (qL s)) 8 2000000002 nt (by rw[qG];omega) nh;have m:Hid (k=BS ([32,69,83,67,65,80,69,32]++qL s)):=qd (by rw[f,show(⟨#[32,69,83,67,65,80,69,32]⟩:mu)=BS [32,69,83,67,65,80,69,32] from rfl,jE]);clear a c i f g he;go_enter func211,ntmps211
  go_wp2_with(go_at_call 210;refine n.mono ?_;rintro e q⟨rfl,o⟩)
  go_ret;exact⟨by rw[q9 m];rfl,o⟩
theorem va3(e:mv):(qg4 e).length<=2 * e.length+10:=by
 have:=p9 e;unfold qg4
 split
 ·simp
 ·simp
  omega
theorem qpg(w:World)(k:Nat)(os:Array Obj):Xb w (Sort.grow (w.drewN k) os):=
 ⟨rfl,rfl,rfl,by first|(simp[Sort.grow];done)|(simp[Sort.grow];omega),λi a=>by
  show((w.drewN k).heap++os)[i]?=_;rw[Array.getElem?_append_left (by show i<w.heap.size;omega)]
  rfl⟩
structure SpA(w:World)(b:Nat)(p:CP)(l r:Value):Prop where
 lib:LibOk w
 lt:b<w.heap.size
 c0:w.cell? ⟨b,0,none⟩=some (.int .i64 p.op)
 c1:w.cell? ⟨b,1,none⟩=some l
 c2:w.cell? ⟨b,2,none⟩=some r
 c3:w.cell? ⟨b,3,none⟩=some (.int .i64 p.num)
 c4:w.cell? ⟨b,4,none⟩=some (.string (BS p.str))
 c5:w.cell? ⟨b,5,none⟩=some (.string (BS p.esc))
 rng:Rng p.num
 s4:p.str.length<=1000000000
 s5:p.esc.length<=1000000000
theorem vhx(w:World)(b:Nat)(p:CP)(l r:Value)(h:SpA w b p l r)(lt rt:mv)(c:p.op=0):
  nz 168 #[at0 b] w λe w'=>e=.returned (.string (BS (qE p lt rt)))/\Xb w w':=by
 have f:(p.op==0)=true:=by rw[c];rfl
 have c0:=h.c0
 have a:qE p lt rt=p.str:=by
  unfold qE;rw[f];rfl
 rw[a];clear a;unfold at0;have c4:=h.c4;clear h c;go_enter func168,ntmps168
 go_wp2_with fail
 go_ret;exact⟨rfl,nw⟩
theorem vhy(w:World)(b:Nat)(p:CP)(l r:Value)(h:SpA w b p l r)(lt rt:mv)(a:p.op=1):
  Calls prog 168 #[at0 b] w λe w'=>e=.returned (.string (BS (qE p lt rt)))/\Xb w w':=by
 have g:(p.op==0)=false:=by rw[a];rfl
 have f:(p.op==1)=true:=by rw[a];rfl
 have c0:=h.c0
 have c:qE p lt rt=Lib.itoa p.num:=by
  unfold qE;rw[g,f];rfl
 rw[c];clear c;unfold at0;have c3:=h.c3;have i:=qd (Tryz.strconv_FormatInt_10 p.num h.rng.1 h.rng.2 w h.lib.pow);clear h a;go_enter func168,ntmps168
 go_wp2_with(go_at_call 209;refine i.mono ?_;rintro e j⟨rfl,k,os,rfl⟩)
 go_ret;exact⟨rfl,qpg w k os⟩
theorem vhz(w:World)(b:Nat)(p:CP)(l r:Value)(h:SpA w b p l r)(lt rt:mv)(a:p.op=2):
  nz 168 #[at0 b] w λe w'=>e=.returned (.string (BS (qE p lt rt)))/\Xb w w':=by
 have i:(p.op==0)=false:=by rw[a];rfl
 have g:(p.op==1)=false:=by rw[a];rfl
 have f:(p.op==2)=true:=by rw[a];rfl
 have c0:=h.c0
 have c:qE p lt rt=qL p.str:=by
  unfold qE;rw[i,g,f];rfl
 rw[c];clear c;unfold at0;have c4:=h.c4;have j:=qd (gn p.str h.s4 w h.lib);clear h a;go_enter func168,ntmps168
 go_wp2_with(go_at_call 210;refine j.mono ?_;rintro e m⟨rfl,k⟩)
 go_ret;exact⟨rfl,k⟩
theorem vi0(w:World)(b:Nat)(p:CP)(l r:Value)(h:SpA w b p l r)(lt rt:mv)(a:p.op=3):
  nz 168 #[at0 b] w λe w'=>e=.returned (.string (BS (qE p lt rt)))/\Xb w w':=by
 have j:(p.op==0)=false:=by rw[a];rfl
 have i:(p.op==1)=false:=by rw[a];rfl
 have g:(p.op==2)=false:=by rw[a];rfl
 have f:(p.op==3)=true:=by rw[a];rfl
 have c0:=h.c0
 have c:qE p lt rt=[84,82,85,69]:=by
  unfold qE;rw[j,i,g,f];rfl
 rw[c];clear c;unfold at0;clear h a;go_enter func168,ntmps168
 go_wp2_with fail
 go_ret;exact⟨rfl,nw⟩
theorem vi1(w:World)(b:Nat)(p:CP)(l r:Value)(h:SpA w b p l r)(lt rt:mv)(a:p.op=4):
  nz 168 #[at0 b] w λe w'=>e=.returned (.string (BS (qE p lt rt)))/\Xb w w':=by
 have k:(p.op==0)=false:=by rw[a];rfl
 have j:(p.op==1)=false:=by rw[a];rfl
 have i:(p.op==2)=false:=by rw[a];rfl
 have g:(p.op==3)=false:=by rw[a];rfl
 have f:(p.op==4)=true:=by rw[a];rfl
 have c0:=h.c0
 have c:qE p lt rt=[70,65,76,83,69]:=by
  unfold qE;rw[k,j,i,g,f];rfl
 rw[c];clear c;unfold at0;clear h a;go_enter func168,ntmps168
 go_wp2_with fail
 go_ret;exact⟨rfl,nw⟩
theorem vi2(w:World)(b:Nat)(p:CP)(l r:Value)(h:SpA w b p l r)(lt rt:mv)(k:TextAt w l lt)(C:lt.length<=1000000000)(a:p.op=5):
  nz 168 #[at0 b] w λe w'=>e=.returned (.string (BS (qE p lt rt)))/\Xb w w':=by
 have x:(p.op==0)=false:=by rw[a];rfl
 have u:(p.op==1)=false:=by rw[a];rfl
 have q:(p.op==2)=false:=by rw[a];rfl
 have o:(p.op==3)=false:=by rw[a];rfl
 have n:(p.op==4)=false:=by rw[a];rfl
 have m:(p.op==5)=true:=by rw[a];rfl
 have c0:=h.c0
 have f:qE p lt rt=[40,78,79,84,32]++lt++[41]:=by
  unfold qE;rw[x,u,q,o,n,m];rfl
 rw[f];clear f;unfold at0;obtain⟨lb,rfl,H,D⟩:=k;unfold at0 at h;have c1:=h.c1;obtain⟨z,g,c,G⟩:=ji ⟨#[40,78,79,84,32]⟩ (BS lt) 5 1000000000 nt (by rw[qG];omega) nh;obtain⟨y,i,j,F⟩:=ji z ⟨#[41]⟩ 1000000005 1 c nt nh
 have A:Hid (y=BS ([40,78,79,84,32]++lt++[41])):=qd (by
  rw[i,g,show(⟨#[40,78,79,84,32]⟩:mu)=BS [40,78,79,84,32] from rfl,show(⟨#[41]⟩:mu)=BS [41] from rfl,jE,jE])
 clear g c i j;clear h a;go_enter func168,ntmps168
 go_wp2_with fail
 go_ret;exact⟨by rw[q9 A];rfl,nw⟩
theorem vd4(w:World)(b:Nat)(p:CP)(l r:Value)(h:SpA w b p l r)(lt rt:mv)(k:TextAt w l lt)(D:lt.length<=1000000000)(a:p.op=23):
  nz 168 #[at0 b] w λe w'=>e=.returned (.string (BS (qE p lt rt)))/\Xb w w':=by
 have x:(p.op==0)=false:=by rw[a];rfl
 have u:(p.op==1)=false:=by rw[a];rfl
 have q:(p.op==2)=false:=by rw[a];rfl
 have o:(p.op==3)=false:=by rw[a];rfl
 have n:(p.op==4)=false:=by rw[a];rfl
 have m:(p.op==5)=false:=by rw[a];rfl
 have C:(p.op==23)=true:=by rw[a];rfl
 have c0:=h.c0
 have f:qE p lt rt=[40]++lt++[32,73,83,32,78,85,76,76,41]:=by
  unfold qE;rw[x,u,q,o,n,m,C];rfl
 rw[f];clear f;unfold at0;obtain⟨lb,rfl,I,F⟩:=k;unfold at0 at h;have c1:=h.c1;obtain⟨z,g,c,H⟩:=ji ⟨#[40]⟩ (BS lt) 1 1000000000 nt (by rw[qG];omega) nh;obtain⟨y,i,j,G⟩:=ji z ⟨#[32,73,83,32,78,85,76,76,41]⟩ 1000000001 9 c nt nh
 have A:Hid (y=BS ([40]++lt++[32,73,83,32,78,85,76,76,41])):=qd (by
  rw[i,g,show(⟨#[40]⟩:mu)=BS [40] from rfl,show(⟨#[32,73,83,32,78,85,76,76,41]⟩:mu)=BS [32,73,83,32,78,85,76,76,41] from rfl,jE,jE])
 clear g c i j;clear h a;go_enter func168,ntmps168
 go_wp2_with fail
 go_ret;exact⟨by rw[q9 A];rfl,nw⟩
theorem vd3(w:World)(b:Nat)(p:CP)(l r:Value)(h:SpA w b p l r)(lt rt:mv)(K:TextAt w l lt)(zl:lt.length<=1000000000)(c:p.op=22):
  nz 168 #[at0 b] w λe w'=>e=.returned (.string (BS (qE p lt rt)))/\Xb w w':=by
 have Q:(p.op==0)=false:=by rw[c];rfl
 have P:(p.op==1)=false:=by rw[c];rfl
 have O:(p.op==2)=false:=by rw[c];rfl
 have N:(p.op==3)=false:=by rw[c];rfl
 have M:(p.op==4)=false:=by rw[c];rfl
 have L:(p.op==5)=false:=by rw[c];rfl
 have DQ:(p.op==23)=false:=by rw[c];rfl
 have DR:(p.op==22)=true:=by rw[c];rfl
 have c0:=h.c0
 have D:qE p lt rt=[40]++lt++[32,76,73,75,69,32]++qL p.str++qg4 p.esc++[41]:=by
  unfold qE;rw[Q,P,O,N,M,L,DQ,DR];rfl
 rw[D];clear D;unfold at0;obtain⟨lb,rfl,H,C⟩:=K;unfold at0 at h;have c1:=h.c1;have c4:=h.c4;have c5:=h.c5;have i:=h.lt;have J:=p9 p.str;have s4:=h.s4;have s5:=h.s5;have m:=va3 p.esc;obtain⟨R1,F,x,a1⟩:=ji ⟨#[40]⟩ (BS lt) 1 1000000000 nt (by rw[qG];omega) nh;obtain⟨Z,G,u,a2⟩:=ji R1 ⟨#[32,76,73,75,69,32]⟩ 1000000001 6 x nt nh;obtain⟨Y,y,q,a3⟩:=ji Z (BS (qL p.str)) 1000000007 2000000002 u (by rw[qG];omega) nh;obtain⟨X,z,o,a4⟩:=ji Y (BS (qg4 p.esc)) 3000000009 2000000010 q (by rw[qG];omega) nh;obtain⟨U,A,I,a5⟩:=ji X ⟨#[41]⟩ 5000000019 1 o nt nh
 have HR:Hid (U=BS ([40]++lt++[32,76,73,75,69,32]++qL p.str++qg4 p.esc++[41])):=qd (by
  rw[A,z,y,G,F,show(⟨#[40]⟩:mu)=BS [40] from rfl,show(⟨#[32,76,73,75,69,32]⟩:mu)=BS [32,76,73,75,69,32] from rfl,show(⟨#[41]⟩:mu)=BS [41] from rfl,jE,jE,jE,jE,jE])
 clear F x G u y q z o A I;have HQ:Hid (∀a,Xb w a->nz 210 #[.string (BS p.str)] a λe w'=>e=.returned (.string (BS (qL p.str)))/\Xb a w'):=qd (λa k=>gn p.str s4 a (h.lib.below k nt));have HS:Hid (∀a,Xb w a->nz 211 #[.pointer (some ⟨b,0,none⟩)] a λe w'=>e=.returned (.string (BS (qg4 p.esc)))/\Xb a w'):=qd (λa k=>qck b p.esc s5 a (h.lib.below k nt) ((k.cell (p:=⟨b,5,none⟩) i).trans c5));have f:Hid (Xb w w.drew):=qd nw.drew;clear h c J s4 s5 m c5;go_enter func168,ntmps168
 go_wp2_with fail
 go_region_held3 (λW=>Xc W b 1 (.pointer (some ⟨lb,0,none⟩))/\Xc W lb 6 (.string (BS lt))/\Xc W b 4 (.string (BS p.str))) (go_keep) (first|(go_at_call 210;refine(HQ _ f).mono ?_;rintro e a⟨rfl,j⟩;replace f:=qd (qf f j);obtain⟨g,n⟩:=qj f;have T:=(g b 1 i).trans c1;have S:=(g lb 6 H).trans C;have R:=(g b 4 i).trans c4;clear g n j)|(go_at_call 211;refine(HS _ f).mono ?_;rintro e a⟨rfl,j⟩;replace f:=qd (qf f j);obtain⟨g,n⟩:=qj f;have T:=(g b 1 i).trans c1;have S:=(g lb 6 H).trans C;have R:=(g b 4 i).trans c4;clear g n j))
 all_goals(go_wp2_with fail;go_ret;exact⟨by rw[q9 HR];rfl,q9 f⟩)
theorem qxe(w:World)(b:Nat)(p:CP)(l r:Value)(h:SpA w b p l r)(lt rt:mv)(N:TextAt w l lt)(J:lt.length<=1000000000)(M:TextAt w r rt)(I:rt.length<=1000000000)(A:¬p.op=0)(z:¬p.op=1)(y:¬p.op=2)(x:¬p.op=3)(u:¬p.op=4)(q:¬p.op=5)(G:¬p.op=23)(F:¬p.op=22):
  nz 168 #[at0 b] w λe w'=>e=.returned (.string (BS (qE p lt rt)))/\Xb w w':=by
 have T:(p.op==0)=false:=ae.2 A;have S:(p.op==1)=false:=ae.2 z;have R:(p.op==2)=false:=ae.2 y;have Q:(p.op==3)=false:=ae.2 x;have P:(p.op==4)=false:=ae.2 u;have O:(p.op==5)=false:=ae.2 q;have DQ:(p.op==23)=false:=ae.2 G;have DR:(p.op==22)=false:=ae.2 F;have c0:=h.c0
 have o:qE p lt rt=[40]++lt++[32]++jo p.op++[32]++rt++[41]:=by
  unfold qE;rw[T,S,R,Q,P,O,DQ,DR];rfl
 rw[o];clear o;unfold at0;obtain⟨lb,rfl,L9,lc⟩:=N;obtain⟨j,rfl,V4,rc⟩:=M;unfold at0 at h;have c1:=h.c1;have c2:=h.c2;have KQ:=pt p.op;obtain⟨R1,C,i,a1⟩:=ji ⟨#[40]⟩ (BS lt) 1 1000000000 nt (by rw[qG];omega) nh;obtain⟨R2,D,g,a2⟩:=ji R1 ⟨#[32]⟩ 1000000001 1 i nt nh;obtain⟨Z,k,f,a3⟩:=ji R2 (BS (jo p.op)) 1000000002 1000 g (by rw[qG];omega) nh;obtain⟨Y,m,c,a4⟩:=ji Z ⟨#[32]⟩ 1000001002 1 f nt nh;obtain⟨X,n,a,a5⟩:=ji Y (BS rt) 1000001003 1000000000 c (by rw[qG];omega) nh;obtain⟨U,H,K,a6⟩:=ji X ⟨#[41]⟩ 2000001003 1 a nt nh
 have HR:Hid (U=BS ([40]++lt++[32]++jo p.op++[32]++rt++[41])):=qd (by
  rw[H,n,m,k,D,C,show(⟨#[40]⟩:mu)=BS [40] from rfl,show(⟨#[32]⟩:mu)=BS [32] from rfl,show(⟨#[41]⟩:mu)=BS [41] from rfl,jE,jE,jE,jE,jE,jE])
 clear C i D g k f m c n a H K;clear h KQ J I A z y x u q G F;go_enter func168,ntmps168
 go_wp2_with fail
 go_region_held3 (λW=>Xc W b 0 (.int .i64 p.op)/\Xc W b 1 (.pointer (some ⟨lb,0,none⟩))/\Xc W lb 6 (.string (BS lt))/\Xc W b 2 (.pointer (some ⟨j,0,none⟩))/\Xc W j 6 (.string (BS rt))) (go_keep) (first|(go_at_call 212;refine(qtk _ _).mono ?_;rintro e L⟨rfl,cD⟩;subst L))
 all_goals(go_wp2_with fail;go_ret;exact⟨by rw[q9 HR];rfl,nw.drew⟩)
def unB(op:Int):Bool:=op==5||op==22||op==23
def vY(op:Int):Bool:=op==0||op==1||op==2||op==3||op==4
theorem qxd(w:World)(b:Nat)(p:CP)(l r:Value)(h:SpA w b p l r)(lt rt:mv)(a:lt.length<=1000000000)(f:rt.length<=1000000000)
  (i:vY p.op=false->TextAt w l lt) (g:vY p.op=false->unB p.op=false->TextAt w r rt) :
  nz 168 #[at0 b] w λe w'=>e=.returned (.string (BS (qE p lt rt)))/\Xb w w':=by
 by_cases h0:p.op=0
 ·exact vhx w b p l r h lt rt h0
 by_cases h1:p.op=1
 ·exact vhy w b p l r h lt rt h1
 by_cases h2:p.op=2
 ·exact vhz w b p l r h lt rt h2
 by_cases h3:p.op=3
 ·exact vi0 w b p l r h lt rt h3
 by_cases h4:p.op=4
 ·exact vi1 w b p l r h lt rt h4
 have c:=i (by unfold vY;simp[h0,h1,h2,h3,h4])
 by_cases h5:p.op=5
 ·exact vi2 w b p l r h lt rt c a h5
 by_cases J8:p.op=23
 ·exact vd4 w b p l r h lt rt c a J8
 by_cases T5:p.op=22
 ·exact vd3 w b p l r h lt rt c a T5
 exact qxe w b p l r h lt rt c a (g (by unfold vY;simp[h0,h1,h2,h3,h4]) (by unfold unB;simp[h5,T5,J8])) f h0 h1 h2 h3 h4 h5 J8 T5
def coV(p:CP)(l r:Value):Value:=.agg #[.int .i64 p.op,l,r,.int .i64 p.num,.string (BS p.str),.string (BS p.esc),.string ⟨#[]⟩]
theorem TextAt.below(h:TextAt w v t)(a:Xb w w'):TextAt w' v t:=by
 obtain⟨b,rfl,c,e⟩:=h;exact⟨b,rfl,bg c a.size,(a.cell (p:=⟨b,6,none⟩) c).trans e⟩
theorem gE(w:World)(u:LibOk w)(p:CP)(l r:Value)(lt rt:mv)(o:Rng p.num)(y:p.str.length<=1000000000)(x:p.esc.length<=1000000000)(m:lt.length<=1000000000)(k:rt.length<=1000000000)
  (N:∃a,l=.pointer a) (f:∃a,r=.pointer a)
  (q:vY p.op=false->TextAt w l lt) (n:vY p.op=false->unB p.op=false->TextAt w r rt) :
  nz 115 #[coV p l r] w λe w'=>e=.returned (at0 w.heap.size)/\CellsC w.heap.size w'.heap.size w' w.heap.size p l r (qE p lt rt)/\Xb w w':=by
 have g:Xb w (w.alloc (.cells #[.int .i64 p.op,l,r,.int .i64 p.num,.string (BS p.str),.string (BS p.esc),.string ⟨#[]⟩] 75)):=nw.alloc nt _
 have i:=qd (qxd (w.alloc (.cells #[.int .i64 p.op,l,r,.int .i64 p.num,.string (BS p.str),.string (BS p.esc),.string ⟨#[]⟩] 75)) w.heap.size p l r
  ⟨u.alloc _,mx,mx,mx,mx,mx,mx,mx,o,y,x⟩ lt rt m k (λh=>(q h).below g) (λh D=>(n h D).below g))
 obtain⟨C,rfl⟩:=N;obtain⟨A,rfl⟩:=f;generalize ht:qE p lt rt=t;rw[ht]at i;unfold at0 at i;clear u o y x m k q n ht;unfold at0 coV;go_enter func115,ntmps115
 go_wp2_with(go_at_call 168;refine i.mono ?_;rintro e c⟨rfl,b⟩;have z:w.heap.size<c.heap.size:=(by have:=b.size;simp at this;omega);have L:Xc c w.heap.size 0 (.int .i64 p.op):=((qj b).1 _ 0 mx).trans mx;have K:Xc c w.heap.size 1 (.pointer C):=((qj b).1 _ 1 mx).trans mx;have J:Xc c w.heap.size 2 (.pointer A):=((qj b).1 _ 2 mx).trans mx;have I:Xc c w.heap.size 3 (.int .i64 p.num):=((qj b).1 _ 3 mx).trans mx;have H:Xc c w.heap.size 4 (.string (BS p.str)):=((qj b).1 _ 4 mx).trans mx;have G:Xc c w.heap.size 5 (.string (BS p.esc)):=((qj b).1 _ 5 mx).trans mx;have F:Xc c w.heap.size 6 (.string ⟨#[]⟩):=((qj b).1 _ 6 mx).trans mx;have O:Xf c w.heap.size:=(λj=>((qj b).2 _ j mx).trans mx);have M:=qd (qf g b);clear b)
 go_ret;refine⟨rfl,⟨nt,by simpa using z,by simpa using z,by simp[go_sem,L],by simp[go_sem,K],by simp[go_sem,J],by simp[go_sem,I],by simp[go_sem,H],by simp[go_sem,G],by simp[go_sem,F]⟩, ?_⟩;exact M.setCell mx _
theorem LibOk.drew(h:LibOk w):LibOk w.drew:=h.below nw.drew nt
theorem qdq(j:vY op=false)(h:unB op=false)(l r:mv):qE (qm op) l r=[40]++l++[32]++jo op++[32]++r++[41]:=by
 unfold vY at j;unfold unB at h;simp only[fa]at j h;obtain⟨⟨⟨⟨a,b⟩,c⟩,d⟩,e⟩:=j;obtain⟨⟨f,g⟩,i⟩:=h;simp only[qE,qm,a,b,c,d,e,f,g,i];rfl
theorem CoAt.two{a:World}{x y:Co}(g:B<=a.heap.size)(b:CellsC a.heap.size w'.heap.size w' a.heap.size (qm op) vx vy (qE (qm op) (qp x) (qp y)))(c:Xb a w')(f:CoAt B a.heap.size a vx x)(e:CoAt B a.heap.size a vy y):
  CoAt B w'.heap.size w' (at0 a.heap.size) (.bin (qm op) x y):=
 ⟨a.heap.size,vx,vy,rfl,⟨g,b.hi,b.within,b.c0,b.c1,b.c2,b.c3,b.c4,b.c5,b.c6⟩,f.below c,e.below c⟩
theorem CoAt.ptr{c:Co}(h:CoAt B E w v c):∃b,v=.pointer (some ⟨b,0,none⟩):=by
 obtain⟨b,_,_,_,rfl,_⟩:=h.head;exact⟨b,rfl⟩
theorem qcl(op:Int)(n:B<=w.heap.size)(m:LibOk w){x y:Co}{a:Nat}(f:CoAt B w.heap.size w (.pointer (some ⟨bx,0,none⟩)) x)(c:CoAt B w.heap.size w (.pointer (some ⟨a,0,none⟩)) y)(j:(qp x).length<=1000000000)(i:(qp y).length<=1000000000):
  nz 115 #[.agg #[.int .i64 op,.pointer (some ⟨bx,0,none⟩),.pointer (some ⟨a,0,none⟩),.int .i64 0,.string ⟨#[]⟩,.string ⟨#[]⟩,.string ⟨#[]⟩]] w λe w'=>∃b,e=.returned (.pointer (some ⟨b,0,none⟩))/\CoAt B w'.heap.size w' (.pointer (some ⟨b,0,none⟩)) (.bin (qm op) x y)/\Xb w w':=by
 have h:=gE w m (qm op) (.pointer (some ⟨bx,0,none⟩)) (.pointer (some ⟨a,0,none⟩)) (qp x) (qp y) (show Rng 0 from⟨nh,nh⟩) (bj _) (bj _) j i ⟨_,rfl⟩ ⟨_,rfl⟩ (λ_=>f.text) (λ_ _=>c.text);refine Calls.mono (show nz 115 #[.agg #[.int .i64 op,.pointer (some ⟨bx,0,none⟩),.pointer (some ⟨a,0,none⟩),.int .i64 0,.string ⟨#[]⟩,.string ⟨#[]⟩,.string ⟨#[]⟩]] w _ from h) ?_;rintro e w'⟨rfl,k,g⟩;exact⟨w.heap.size,rfl,CoAt.two n k g f c,g⟩
theorem j4(op:Int)(A:B<=w.heap.size)(z:LibOk w){x y:Co}(m:CoAt B w.heap.size w vx x)(k:CoAt B w.heap.size w vy y)(u:(qp x).length<=1000000000)(r:(qp y).length<=1000000000):
  nz 111 #[.int .i64 op,vx,vy] w λe w'=>∃b,e=.returned (.pointer (some ⟨b,0,none⟩))/\CoAt B w'.heap.size w' (.pointer (some ⟨b,0,none⟩)) (qk op x y)/\Xb w w':=by
 obtain⟨bx,rfl⟩:=m.ptr;obtain⟨C,rfl⟩:=k.ptr;obtain⟨i,g,I,K⟩:=m.text;obtain⟨D,f,L,J⟩:=k.text;obtain rfl:i=bx:=by injection g with g;injection g with g;injection g with g;exact g.symm
 obtain rfl:D=C:=by injection f with f;injection f with f;injection f with f;exact f.symm
 have G:Hid (∀c,Xb w c->nz 115 #[.agg #[.int .i64 op,.pointer (some ⟨i,0,none⟩),.pointer (some ⟨D,0,none⟩),.int .i64 0,.string ⟨#[]⟩,.string ⟨#[]⟩,.string ⟨#[]⟩]] c λe w'=>∃b,e=.returned (.pointer (some ⟨b,0,none⟩))/\CoAt B w'.heap.size w' (.pointer (some ⟨b,0,none⟩)) (.bin (qm op) x y)/\Xb c w'):=
  qd (λc a=>qcl op (bs A a.size) (z.below a nt) (m.below a) (k.below a) u r)
 have H:Hid (∀c,Xb w c->nz 115 #[.agg #[.int .i64 op,.pointer (some ⟨D,0,none⟩),.pointer (some ⟨i,0,none⟩),.int .i64 0,.string ⟨#[]⟩,.string ⟨#[]⟩,.string ⟨#[]⟩]] c λe w'=>∃b,e=.returned (.pointer (some ⟨b,0,none⟩))/\CoAt B w'.heap.size w' (.pointer (some ⟨b,0,none⟩)) (.bin (qm op) y x)/\Xb c w'):=
  qd (λc a=>qcl op (bs A a.size) (z.below a nt) (k.below a) (m.below a) r u)
 have M:Op.bytesLess (BS (qp y)).toList (BS (qp x)).toList=Op.bytesLess (qp y) (qp x):=by rw[qM,qM]
 have j:Hid (∀n,Xb w (w.drewN n)):=qd (λn=>⟨rfl,rfl,rfl,nt,λ_ _=>rfl⟩);unfold qk;generalize Op.bytesLess (qp y) (qp x)=lt at *;clear m k u r z A g f
 cases he:xC op with
 | false=>
  rw[ld,aj nh];have q:Hid (∀w,nz 164 #[.int .i64 op] w λe w'=>e=.returned (.bool false)/\w'=w):=qd (λw=>he ▸ kG op w);clear he;go_enter func111,ntmps111
  go_wp2_with fail
  go_quiet ((go_at_call 164;exact Calls.quiet_of_same (q _)))
  go_wp2_with(go_at_call 115;refine(G _ (j _)).mono ?_;rintro e F⟨b,rfl,o,a⟩)
  go_ret;exact⟨b,rfl,o,qf (j _) a⟩
 | true=>
  rw[fm];have q:Hid (∀w,nz 164 #[.int .i64 op] w λe w'=>e=.returned (.bool true)/\w'=w):=qd (λw=>he ▸ kG op w);clear he
  cases lt with
  | false=>
   rw[aj nh];go_enter func111,ntmps111
   go_wp2_with fail
   go_quiet ((go_at_call 164;exact Calls.quiet_of_same (q _)))
   go_wp2_with(go_at_call 115;refine(G _ (j _)).mono ?_;rintro e F⟨b,rfl,o,a⟩)
   go_ret;exact⟨b,rfl,o,qf (j _) a⟩
  | true=>
   rw[bh rfl];go_enter func111,ntmps111
   go_wp2_with fail
   go_quiet ((go_at_call 164;exact Calls.quiet_of_same (q _)))
   go_wp2_with(go_at_call 115;refine(H _ (j _)).mono ?_;rintro e F⟨b,rfl,o,a⟩)
   go_ret;exact⟨b,rfl,o,qf (j _) a⟩
def uC:Co->Nat
 | .leaf _=>1
 | .un _ x=>uC x
 | .bin p x y=>if p.op==6||p.op==7 then uC x+uC y else 1
theorem qp4:∀c,1<=uC c:=by
 intro c
 induction c with
 | leaf p=>exact nt
 | un p x ih=>exact ih
 | bin p x y ihx ihy=>unfold uC;split<;>omega
theorem jC(op:Int)(x y:Co):uC (qk op x y)=if op==6||op==7 then uC x+uC y else 1:=by
 unfold qk
 split
 ·show(if(op==6||op==7)=true then uC y+uC x else 1)=_
  rw[Nat.add_comm]
 ·rfl
theorem vep:∀c,uC (qW c)=uC c:=by
 intro c
 induction c with
 | leaf p=>unfold qW;split;rfl;split<;>rfl
 | un p x ih=>unfold qW;split<;>rfl
 | bin p x y ihx ihy=>
  unfold qW
  by_cases h6:(p.op==6)=true
  ·rw[bh h6,jC,ihx,ihy]
   show(if((7:Int)==6||(7:Int)==7)=true then _ else _)=if(p.op==6||p.op==7)=true then _ else _
   rw[h6];rfl
  rw[aj h6]
  by_cases h7:(p.op==7)=true
  ·rw[bh h7,jC,ihx,ihy]
   show(if((6:Int)==6||(6:Int)==7)=true then _ else _)=if(p.op==6||p.op==7)=true then _ else _
   rw[h7,Bool.or_true];rfl
  rw[aj h7]
  have a:uC (.bin p x y)=1:=by
   show(if(p.op==6||p.op==7)=true then _ else _)=1;rw[aj];rw[ix.2 h6,ix.2 h7];decide
  by_cases L1:(p.op==10)=true
  ·rw[bh L1,jC,a];rfl
  rw[aj L1]
  by_cases M8:(p.op==11)=true
  ·rw[bh M8,jC,a];rfl
  rw[aj M8];rfl
theorem qH(op:Int)(b:vY op=false)(a:unB op=false)(x y:Co):(qp (qk op x y)).length=(qp x).length+(qp y).length+4+(jo op).length:=by
 unfold qk
 split
 ·show(qE (qm op) (qp y) (qp x)).length=_
  rw[qdq b a];simp;omega
 ·show(qE (qm op) (qp x) (qp y)).length=_
  rw[qdq b a];simp;omega
def qph(op:Int):Bool:=!vY op&&!unB op
theorem jv{p:CP}(h:qph p.op=true)(x y:Co):(qp (.bin p x y)).length=(qp x).length+(qp y).length+4+(jo p.op).length:=by
 show(qE p (qp x) (qp y)).length=_;unfold qph vY unB at h;simp only[cn,mr,fa]at h;obtain⟨⟨⟨⟨⟨a,b⟩,c⟩,d⟩,e⟩,⟨f,g⟩,i⟩:=h;simp only[qE,a,b,c,d,e,f,g,i];simp;omega
def WfC:Co->Prop
 | .leaf p=>vY p.op=true
 | .un p x=>unB p.op=true/\WfC x
 | .bin p x y=>qph p.op=true/\WfC x/\WfC y
theorem vF(h:qph op=true){x y:Co}(b:WfC x)(a:WfC y):WfC (qk op x y):=by
 unfold qk
 split
 ·exact⟨h,a,b⟩
 ·exact⟨h,b,a⟩
theorem qyf:∀c,WfC c->WfC (qW c):=by
 intro c
 induction c with
 | leaf p=>intro h;unfold qW;split;exact rfl;split;exact rfl;exact⟨rfl,h⟩
 | un p x ih=>intro h;unfold qW;split;exact h.2;exact⟨rfl,h⟩
 | bin p x y ihx ihy=>
  intro h;unfold qW
  split
  ·exact vF rfl (ihx h.2.1) (ihy h.2.2)
  split
  ·exact vF rfl (ihx h.2.1) (ihy h.2.2)
  split
  ·exact vF rfl h.2.2 h.2.1
  split
  ·exact vF rfl h.2.2 h.2.1
  ·exact⟨rfl,h⟩
theorem qa5(c:Co):(qp (.un (qm 5) c)).length=(qp c).length+6:=by
 show(qE (qm 5) (qp c) []).length=_;simp[qE,qm]
theorem za:∀c,WfC c->(qp (qW c)).length+1<=(qp c).length+7 * uC c:=by
 intro c
 induction c with
 | leaf p=>
  intro _;unfold qW
  split
  ·rename_i h;have:(qp (.leaf p)).length=4:=by show(qE p [] []).length=4;rw[qE,eq_of_beq h];rfl
   show 5+1<=_+7 * 1;omega
  split
  ·show 4+1<=_+7 * 1;omega
  ·rw[qa5];show _<=_+7 * 1;omega
 | un p x ih=>
  intro a;have i:=qp4 x;unfold qW
  split
  ·rename_i h
   simp only[cn,dg]at h;have:(qp (.un p x)).length=(qp x).length+6:=by show(qE p (qp x) []).length=_;simp[qE,h.1]
   show _<=_+7 * uC x;omega
  ·rw[qa5];show _<=_+7 * uC x;omega
 | bin p x y ihx ihy=>
  intro a;have g:=ihx a.2.1;have f:=ihy a.2.2;have b:=jv a.1 x y;have j:=pt p.op;unfold qW
  by_cases h6:(p.op==6)=true
  ·rw[bh h6,qH 7 rfl rfl,b]
   have:uC (.bin p x y)=uC x+uC y:=by show(if(p.op==6||p.op==7)=true then _ else _)=_;rw[h6];rfl
   rw[this];have:(jo p.op).length=3:=by rw[eq_of_beq h6];rfl
   show _+_+4+2+1<=_;omega
  rw[aj h6]
  by_cases h7:(p.op==7)=true
  ·rw[bh h7,qH 6 rfl rfl,b]
   have:uC (.bin p x y)=uC x+uC y:=by show(if(p.op==6||p.op==7)=true then _ else _)=_;rw[h7,Bool.or_true];rfl
   rw[this];have:(jo p.op).length=2:=by rw[eq_of_beq h7];rfl
   show _+_+4+3+1<=_;omega
  rw[aj h7]
  have e:uC (.bin p x y)=1:=by
   show(if(p.op==6||p.op==7)=true then _ else _)=1;rw[aj];rw[ix.2 h6,ix.2 h7];decide
  rw[e]
  by_cases L1:(p.op==10)=true
  ·rw[bh L1,qH 11 rfl rfl,b]
   show _+_+4+2+1<=_;omega
  rw[aj L1]
  by_cases M8:(p.op==11)=true
  ·rw[bh M8,qH 10 rfl rfl,b]
   show _+_+4+1+1<=_;omega
  rw[aj M8,qa5];omega
def gM(c:Co):Prop:=∀(B:Nat) (w:World) (v:Value),B<=w.heap.size->LibOk w->CoAt B w.heap.size w v c ->
 Calls prog 113 #[v] w λe w'=>∃b,e=.returned (.pointer (some ⟨b,0,none⟩))/\CoAt B w'.heap.size w' (.pointer (some ⟨b,0,none⟩)) (qW c)/\Below w.heap.size w w'
theorem xb(p:CP)(c:vY p.op=true)(f:Rng p.num)(m:p.str.length<=1000000000)(k:p.esc.length<=1000000000)(j:B<=w.heap.size)(i:LibOk w):
  nz 115 #[.agg #[.int .i64 p.op,.pointer none,.pointer none,.int .i64 p.num,.string (BS p.str),.string (BS p.esc),.string ⟨#[]⟩]] w λe w'=>∃b,e=.returned (.pointer (some ⟨b,0,none⟩))/\CoAt B w'.heap.size w' (.pointer (some ⟨b,0,none⟩)) (.leaf p)/\Xb w w':=by
 refine Calls.mono (show nz 115 #[.agg #[.int .i64 p.op,.pointer none,.pointer none,.int .i64 p.num,.string (BS p.str),.string (BS p.esc),.string ⟨#[]⟩]] w _ from gE w i p (.pointer none) (.pointer none) [] [] f m k (bj _) (bj _) ⟨_,rfl⟩ ⟨_,rfl⟩ (λh=>by rw[c]at h;cases h) (λh=>by rw[c]at h;cases h)) ?_;rintro e w'⟨rfl,a,g⟩;exact⟨w.heap.size,rfl,⟨w.heap.size,rfl,⟨j,a.hi,a.within,a.c0,a.c1,a.c2,a.c3,a.c4,a.c5,a.c6⟩⟩,g⟩
theorem gF(p:CP)(i:unB p.op=true)(j:Rng p.num)(o:p.str.length<=1000000000)(n:p.esc.length<=1000000000)(m:B<=w.heap.size)(k:LibOk w){x:Co}(c:CoAt B w.heap.size w (.pointer (some ⟨bx,0,none⟩)) x)(g:(qp x).length<=1000000000):
  nz 115 #[.agg #[.int .i64 p.op,.pointer (some ⟨bx,0,none⟩),.pointer none,.int .i64 p.num,.string (BS p.str),.string (BS p.esc),.string ⟨#[]⟩]] w λe w'=>∃b,e=.returned (.pointer (some ⟨b,0,none⟩))/\CoAt B w'.heap.size w' (.pointer (some ⟨b,0,none⟩)) (.un p x)/\Xb w w':=by
 refine Calls.mono (show nz 115 #[.agg #[.int .i64 p.op,.pointer (some ⟨bx,0,none⟩),.pointer none,.int .i64 p.num,.string (BS p.str),.string (BS p.esc),.string ⟨#[]⟩]] w _ from gE w k p (.pointer (some ⟨bx,0,none⟩)) (.pointer none) (qp x) [] j o n g (bj _) ⟨_,rfl⟩ ⟨_,rfl⟩ (λ_=>c.text) (λ_ h=>by rw[i]at h;cases h)) ?_;rintro e w'⟨rfl,a,f⟩;exact⟨w.heap.size,rfl,⟨w.heap.size,_,rfl,⟨m,a.hi,a.within,a.c0,a.c1,a.c2,a.c3,a.c4,a.c5,a.c6⟩,c.below f⟩,f⟩
def Bq(p:Pay):Prop:=p.esc.length<=1/\∀x∈p.texts,x.length<=200
def BqA:Ast->Prop
 | .leaf p=>Bq p
 | .un p x=>Bq p/\BqA x
 | .bin p x y=>Bq p/\BqA x/\BqA y
 | .tri p x y z=>Bq p/\BqA x/\BqA y/\BqA z
theorem bq0(op pl num:Int):Bq ⟨op,pl,num,[],[],[]⟩:=⟨mx,mx⟩
theorem bq1{num:Int}:Bq ⟨op,pl,num,s,[],[]⟩:=⟨mx,mx⟩
theorem vks{s:mu}(H:s.size<=200):QC s BqA λk=>k.str.length<=200:=
 ⟨H,qic H,λ_ _=>⟨λ_=>bq1,bq0 _ _ _,bq1,bq0 _ _ _,bq0 _ _ _⟩,λ_ _ _ _ h=>⟨bq0 _ _ _,h⟩,λ_ _ _ a b=>⟨bq0 _ _ _,a,b⟩,λ_ _ _ _ a b c=>⟨bq0 _ _ _,a,b,c⟩,λ_ _ _ _ f h=>⟨⟨mx,λx m=>by obtain⟨k,i,g⟩:=f x m;rw[g];exact i⟩,h⟩,λ_ _ _ _ _ e h=>⟨⟨by show List.length _<=1;rcases e with rfl|e;exact bj _;exact Nat.le_of_eq e.1,mx⟩,h⟩⟩
structure Bz(p:Pay):Prop where
 name:p.op=0->p.num=0/\p.esc=[]/\yp p.str=true
 num:p.op=1->0<=p.num/\p.str=[]/\p.esc=[]
 text:p.op=2->p.num=0/\p.esc=[]
 bare:p.op=3\/p.op=4\/p.op=5\/p.op=23->p.num=0/\p.str=[]/\p.esc=[]
 like:p.op=22->p.num=0/\(p.esc=[]\/p.esc.length=1/\(zi p.esc p.str).isSome=true)
def BzA:Ast->Prop
 | .leaf p=>Bz p
 | .un p x=>Bz p/\BzA x
 | .bin p x y=>Bz p/\BzA x/\BzA y
 | .tri p x y z=>Bz p/\BzA x/\BzA y/\BzA z
theorem bz0(h:op≠0):Bz ⟨op,pl,0,[],[],[]⟩:=⟨λe=>absurd e h,λ_=>⟨Int.le_refl _,rfl,rfl⟩,λ_=>⟨rfl,rfl⟩,λ_=>⟨rfl,rfl,rfl⟩,λ_=>⟨rfl,.inl rfl⟩⟩
theorem vff(h:yp s=true):Bz ⟨0,pl,0,s,[],[]⟩:=by
 constructor<;>intro e<;>simp at e
 exact⟨rfl,rfl,h⟩
theorem viw{n:Int}(h:0<=n):Bz ⟨1,pl,n,[],[],[]⟩:=by
 constructor<;>intro e<;>simp at e
 exact⟨h,rfl,rfl⟩
theorem vfg:Bz ⟨2,pl,0,s,[],[]⟩:=by
 constructor<;>intro e<;>simp at e
 exact⟨rfl,rfl⟩
theorem qz7{ts:List mv}:Bz ⟨21,pl,0,[],[],ts⟩:=by
 constructor<;>intro e<;>simp at e
theorem vkv{e:mv}(h:e=[]\/e.length=1/\(zi e s).isSome=true):Bz ⟨22,pl,0,s,e,[]⟩:=by
 constructor<;>intro e<;>simp at e
 exact⟨rfl,h⟩
theorem vh5(k:Int):qcv k≠0:=by
 unfold qcv
 repeat' split
 all_goals decide
theorem qm4(p:UInt8->Bool):∀(l:mv) (n:Nat),n<=qw p l->qw p (l.take n)=n:=by
 intro l
 induction l with
 | nil=>intro n h;simp[qw]at h;subst h;rfl
 | cons c t ih=>
  intro n h
  cases n with
  | zero=>rfl
  | succ n=>
   unfold qw at h
   by_cases hc:p c=true
   ·rw[bh hc]at h
    have:=ih n mw;simp[qw,hc,this]
   ·rw[aj hc]at h
    omega
theorem vgu(h:(qX l).kind=2):yp (qX l).str=true:=by
 cases l with
 | nil=>simp[qX,qh]at h
 | cons c t=>
  by_cases a:yd c=true
  ·have e:qX (c::t)=vU (c::t):=by simp[qX,a]
   rw[e]at h ⊢
   by_cases hw:xI ((c::t).take (qx (c::t)))=2
   ·have f:vU (c::t)=⟨2,0,(c::t).take (qx (c::t))⟩:=by unfold vU;rw[bh hw]
    rw[f];have g:qx (c::t)=qw yZ t+1:=by simp[qx,a]
    have i:qx ((c::t).take (qx (c::t)))=qx (c::t):=by
     rw[g,List.take_succ_cons];simp only[qx,a,if_true];rw[qm4 yZ t _ nt]
    have j:=zF (c::t);unfold yp;simp only[i,hw,dh];rw[me j];simp[g]
   ·have f:vU (c::t)=qh (xI ((c::t).take (qx (c::t)))):=by unfold vU;rw[aj hw]
    rw[f]at h;exact absurd h hw
  ·exfalso
   have a:yd c=false:=by simpa using a
   by_cases hd:jc c=true
   ·have e:qX (c::t)=xt (c::t):=by simp[qX,a,hd]
    rw[e]at h;unfold xt at h
    split at h
    ·simp at h
    ·simp[qh]at h
   ·have hd:jc c=false:=by simpa using hd
    by_cases b:(c==39)=true
    ·have e:qX (c::t)=vG (c::t):=by simp[qX,a,hd,b]
     rw[e]at h;unfold vG at h
     split at h
     ·simp at h
     ·simp[qh]at h
    ·have b:(c==39)=false:=by simpa using b
     have e:qX (c::t)=qh (xm (c::t)):=by simp[qX,a,hd,b]
     rw[e]at h;have h:xm (c::t)=2:=h;unfold xm at h
     split at h
     ·omega
     ·unfold qep at h
      repeat' split at h
      all_goals omega
theorem vjr:0<=(qX l).num:=by
 cases l with
 | nil=>simp[qX,qh]
 | cons c t=>
  have a:∀l,0<=(vU l).num:=λl=>by unfold vU;split<;>simp[qh]
  have e:∀l,0<=(xt l).num:=λl=>by
   unfold xt
   split
   ·simp
   ·simp[qh]
  have b:∀l,0<=(vG l).num:=λl=>by unfold vG;split<;>simp[qh]
  show 0<=(if yd c then vU (c::t) else if jc c then xt (c::t) else if c==39 then vG (c::t) else qh (xm (c::t))).num
  split
  ·exact a _
  ·split
   ·exact e _
   ·split
    ·exact b _
    ·exact Int.le_refl _
def TkZ(k:Tk):Prop:=(k.kind=2->yp k.str=true)/\0<=k.num
theorem vd6(s:mu)(st:St):TkZ (qg s st).tk:=by
 show TkZ (qJ _ _);unfold qJ
 split
 ·exact⟨vgu,vjr⟩
 ·exact⟨λh=>by simp[qh]at h,by simp[qh]⟩
theorem vku{s:mu}(H:s.size<=200):QC s BzA TkZ:=
 ⟨H,vd6 s,λ_ h=>⟨λe=>vff (h.1 e),viw h.2,vfg,bz0 nh,bz0 nh⟩,λ_ _ _ e h=>⟨bz0 mw,h⟩,λ_ _ _ a b=>⟨bz0 (vh5 _),a,b⟩,λ_ _ _ _ a b c=>⟨bz0 nh,a,b,c⟩,λ_ _ _ _ _ h=>⟨qz7,h⟩,λ_ _ _ _ _ e h=>⟨vkv e,h⟩⟩
theorem pU{s:mu}{t:Ast}{Q:Ast->Prop}{T:Tk->Prop}(c:s.size<=200->QC s Q T)(h:vj s=.ok t):Q t:=by
 unfold vj at h
 split at h
 ·rename_i a
  split at h
  ·cases h
  ·rename_i b
   unfold qju at h
   repeat' split at h
   all_goals cases h
   exact((ve1 (c a) 12).2.2 _ _ _ ((c a).tk _) b).1
 ·cases h
theorem pO{s:mu}{t:Ast}(h:vj s=.ok t):BzA t:=pU vku h
theorem jg(s t:mu)(m n:Nat)(b:s.size<=m)(a:t.size<=n)(h:m+n<=9000000000):∃r,r=s++t/\r.size<=m+n/\∀w:World,(Op.stringOp .add s t).run prog w=.ok (.string r) w:=
 ⟨s++t,rfl,by rw[ByteArray.size_append];omega,λw=>run_string_add_sum (P:=prog) (w:=w) _ _ mw⟩
theorem jh(a b:mv):BS a++BS b=BS (a++b):=by
 apply ByteArray.ext;apply Array.ext';simp[BS]
theorem vhp(s:mu)(k:Nat)(h:k<s.size):s.data.toList.take (k+1)=s.data.toList.take k++[s[k]]:=by
 rw[dn,ag (by rw[qr];exact h),qy s k h];rfl
theorem vk5(s:mu)(k:Nat)(h:k<s.size):s.extract k (k+1)=BS [s[k]]:=by
 have:(s.extract k (k+1)).data.toList=[s[k]]:=by
  rw[lq,mj,ce (by rw[qr];exact h),qy s k h];simp
 apply ByteArray.ext;apply Array.ext';exact this
theorem vk4(c:UInt8):((c.toNat:Int)==39)=(c==39):=by
 rw[fq,dg,dg];constructor
 ·intro h
  apply UInt8.toNat.inj;have:c.toNat=39:=mw;rw[this];rfl
 ·intro h;rw[h];rfl
theorem vef(l:mv)(c:UInt8):xJ (l++[c])=if c==39 then xJ l++[39,39] else xJ l++[c]:=by
 rw[qji]
 by_cases h:(c==39)=true
 ·rw[bh h];simp only[xJ,bh h]
 ·rw[aj h];simp only[xJ,aj h]
theorem vho(l:mv):(xJ l).length<=2 * l.length:=by
 induction l with
 | nil=>exact bj _
 | cons c r ih=>
  rw[xJ]
  split<;>simp<;>omega
theorem xF(s:mu)(D:s.size<=1000)(w:World):
  nz 226 #[.string s] w λe w'=>e=.returned (.string (BS (qL s.data.toList)))/\w'=w:=by
 have x:=qr s;go_enter func226,ntmps226
 go_wp2_with fail
 go_loop [3,4] (λo i=>∃k:Nat,k<=s.size/\i=.int .i64 k/\o=.string (BS (39::xJ (s.data.toList.take k)))) (λ_ i=>s.size - (intOf i).toNat)
 case atStart=>exact⟨0,bj _,rfl,rfl⟩
 case round=>
  obtain⟨k,F,rfl,rfl⟩:=hrel;have n:=vho (s.data.toList.take k);rw[dh,x]at n;obtain⟨O,a⟩:∃O,BS (39::xJ (s.data.toList.take k))=O:=⟨_,rfl⟩;have b:O.size<=2001:=by rw[←a,qG,eh];omega
  by_cases A0:k<s.size
  ·have c:=vk5 s k A0
   have m:(s.extract k (k+1)).size<=1:=by rw[c,qG];exact nt
   have q:=vhp s k A0
   cases hq:(s[k]==39) with
   | true=>
    have A:((s[k].toNat:Int)==39)=true:=by rw[vk4];exact hq
    obtain⟨Y,g,j,z⟩:=jg O ⟨#[39]⟩ 2001 1 b nt nh;obtain⟨Z,f,r,y⟩:=jg Y (s.extract k (k+1)) 2002 1 j m nh
    have u:Hid (Z=BS (39::xJ (s.data.toList.take (k+1)))):=qd (by
     rw[f,g,←a,c,show(⟨#[39]⟩:mu)=BS [39] from rfl,jh,jh,q,vef,bh hq,eq_of_beq hq]
     simp)
    rw[a];clear a n b c m q hq g j f r
    go_wp2_with fail
    go_round
    case rel=>exact⟨k+1,mw,by go_num,by rw[q9 u]⟩
    case measure=>simp[intOf];omega
   | false=>
    have A:((s[k].toNat:Int)==39)=false:=by rw[vk4];exact hq
    obtain⟨Z,f,r,y⟩:=jg O (s.extract k (k+1)) 2001 1 b m nh
    have u:Hid (Z=BS (39::xJ (s.data.toList.take (k+1)))):=qd (by
     rw[f,←a,c,jh,q,vef,aj (by rw[hq];decide)]
     simp)
    rw[a];clear a n b c m q hq f r
    go_wp2_with fail
    go_round
    case rel=>exact⟨k+1,mw,by go_num,by rw[q9 u]⟩
    case measure=>simp[intOf];omega
  ·obtain rfl:k=s.size:=mw
   obtain⟨Y,g,j,z⟩:=jg O ⟨#[39]⟩ 2001 1 b nt nh
   have C:Hid (Y=BS (qL s.data.toList)):=qd (by
    rw[g,←a,show(⟨#[39]⟩:mu)=BS [39] from rfl,jh,ez (by rw[x];exact nt)]
    rfl)
   rw[a];clear a n b g j
   go_wp2_with fail
   go_ret;exact⟨by rw[q9 C];rfl,rfl⟩
theorem vfs(u:Nat)(h:u<=9223372036854775807):(Lib.decDigits u).length<=21:=by
 have:=Lib.itoa_length_le (u:Int) mw mw;rwa [Lib.itoa_nonneg]at this
theorem qi0:∀(u:Nat),u<=9223372036854775807->∀w:World,Calls prog 225 #[.int .i64 (u:Int)] w λe w'=>e=.returned (.string (BS (Lib.decDigits u)))/\Xb w w':=by
 intro u
 induction u using Nat.strongRecOn with
 | _ u ih=>
  intro x w;have hd:(UInt8.ofNat (48+u % 10)).toNat=48+u % 10:=by rw[fu];omega
  have CV:∀w:World,(convert 51 9 (.slice (some ⟨w.heap.size,0,none⟩) 1 1)).run prog (w.alloc (.cells #[.int .u8 (48+(u:Int) % 10)] 5))=.ok (.string (BS [UInt8.ofNat (48+u % 10)])) (w.alloc (.cells #[.int .u8 (48+(u:Int) % 10)] 5)):=λw=>by
   have:=qmy (UInt8.ofNat (48+u % 10)) w;rw[hd,show((48+u % 10:Nat):Int)=48+(u:Int) % 10 by omega]at this;exact this
  have f:=CV w;obtain⟨S,a⟩:∃S,BS [UInt8.ofNat (48+u % 10)]=S:=⟨_,rfl⟩;rw[a]at f;have m:(0:Int)<=(u:Int):=mw;have k:(u:Int)<=9223372036854775807:=mw
  by_cases h:u<10
  ·have b:Lib.decDigits u=[UInt8.ofNat (48+u % 10)]:=by rw[Lib.decDigits_one h,Nat.mod_eq_of_lt h]
   rw[b,a];have n:(u:Int)<10:=mw;clear CV hd b ih a;go_enter func225,ntmps225
   go_wp2_with fail
   go_ret;exact⟨rfl,nw.alloc nt _⟩
  ·have b:Lib.decDigits u=Lib.decDigits (u / 10)++[UInt8.ofNat (48+u % 10)]:=by rw[Lib.decDigits,dif_neg h]
   have n:¬(u:Int)<10:=mw
   have i:Hid (∀w,Calls prog 225 #[.int .i64 ((u:Int) / 10)] w λe w'=>e=.returned (.string (BS (Lib.decDigits (u / 10))))/\Xb w w'):=qd λw=>by
    have:=ih (u / 10) mw mw w;rwa [show((u / 10:Nat):Int)=(u:Int) / 10 by omega]at this
   obtain⟨A,c⟩:∃A,BS (Lib.decDigits (u / 10))=A:=⟨_,rfl⟩;obtain⟨R,g,j,y⟩:=jg A S 21 1 (by rw[←c,qG];exact vfs _ mw) (by rw[←a,qG];exact nt) nh;have o:Hid (BS (Lib.decDigits u)=R):=qd (by rw[b,g,←c,←a,jh]);rw[c]at i;rw[q9 o];clear CV hd b ih a c g j;go_enter func225,ntmps225
   go_wp2_with(go_at_call 225;refine(i _).mono ?_;rintro e r⟨rfl,q⟩)
   go_ret;exact⟨rfl,qf (nw.alloc nt _) q⟩
end Go.Proofs.YtfkcaldjphakpaaGreatDoor
