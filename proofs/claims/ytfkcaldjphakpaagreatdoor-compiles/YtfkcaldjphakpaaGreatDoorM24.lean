/- Read. -/
import Derived.Test.YtfkcaldjphakpaaGreatDoorM20
import Derived.Lib.AppendIntMem
import Derived.Lib.ItoaNum
import Derived.Lib.SlicesCompact
import Derived.Lib.ItoaLen
set_option maxHeartbeats 32000000
set_option maxRecDepth 100000
namespace Go.Proofs.YtfkcaldjphakpaaGreatDoor
open Go.RowKit Go.Proofs.Tryz
theorem ErrOk.set{w:World}(h:ErrOk w){p:Addr}(hp:3<p.block)(u:Value):ErrOk (w.setCell p u):=by
 obtain⟨h1,ev,h2,h3⟩:=h;refine⟨by rw[size_setCell];exact h1,ev, ?_,h3⟩;rw[World.cell?_of_block (w:=w) (w':=w.setCell p u) (Below.heap_setCell w p u _ (by show 3≠p.block;omega))];exact h2
theorem read_cs(s:ByteArray)(hs:s.size<=200):(∃en pl,(lvl s 12).E (j4 s st0)=.err en pl/\qg4 s=.err en pl)\/∃t G4,(lvl s 12).E (j4 s st0)=.ok t G4/\((¬G4.tk.kind=0/\qg4 s=.err 2 G4.place)\/(G4.tk.kind=0/\((∃q,zb3 (qb3 t)=some q/\qg4 s=.err 4 q)\/(zb3 (qb3 t)=none/\qg4 s=.ok t)))):=by
 cases hE:(lvl s 12).E (j4 s st0) with
 | err en pl=>exact .inl ⟨en,pl,rfl,by rw[qg4,if_pos hs,hE]⟩
 | ok t G4=>
  refine .inr ⟨t,G4,rfl, ?_⟩;rw[show qg4 s=jh3 t G4 by rw[qg4,if_pos hs,hE],jh3]
  by_cases hk:G4.tk.kind=0
  ·refine .inr ⟨hk, ?_⟩
   rw[if_pos hk]
   cases hc:zb3 (qb3 t) with
   | none=>exact .inr ⟨rfl,rfl⟩
   | some q=>exact .inl ⟨q,rfl,rfl⟩
  ·exact .inl ⟨hk,if_neg hk⟩
theorem read_any(s:ByteArray)(w:World)(hE:ErrOk w)(cI:s.size<=140737488355328):
  Calls prog 36 #[.string s] w (ReadEnds w (qg4 s)):=by
 have pT:∀(fn:Fn) (first cap:Array Value) (w:World),(Instr.makeFunc fn first cap).run prog w=.ok (.func fn first cap) w:=λ_ _ _ _=>rfl
 by_cases hs:s.size<=200
 ·skip
  have S7:s.size<=140737488355328:=cI;have hb:decide ((200:Int)<(s.size:Int))=false:=decide_eq_false (by omega);have RDY:=j3 (ji4 w s hE hs);have BC:=j3 (ji3 w s);have BB:=j3 (ji2 w s);have BZ:=qy2 w s;have EI:=j3 (lvl_reads (w.heap.size+3) s hs 12 0 rfl).E;have cG:=j3 (qa7 s st0 (Nat.zero_le _));have GOOD:=j3 (lvl_good s 12).E;have DH:Hid (∀w2 u,Kept (w.heap.size+3) (qz7 w s) w2->ErrOk (w2.setCell ⟨w.heap.size,0,none⟩ u)):=j3 λw2 u hk=>((ja3 w s hE).kept hk (by have:=hE.1;omega)).set hE.1 u
  clear hE cI;rcases read_cs s hs with⟨en,pl,A8,hR⟩|⟨t,G4,A8,⟨hk,hR⟩|⟨hk,⟨q,zA,hR⟩|⟨zA,hR⟩⟩⟩
  all_goals
   rw[hR];clear hR
   try have CHK:=j3 (check_any (w.heap.size+3) t (q9 GOOD _ _ _ A8))
   have D4:=j3 A8;clear A8
   try(have HK:=j3 hk;clear hk)
   try(have PU:=j3 zA;clear zA)
   go_enter_defers func36,ntmps36
   go_wp2_with(first|(go_at_call 54;refine(qm3 (w.heap.size+3) s st0 (qz7 w s) S7 (Nat.zero_le _) (q9 RDY).at' (q9 RDY).lt (q9 RDY).err).mono ?_;rintro e w1⟨rfl,A4,A0⟩;have C8:=A0.size;rw[qy2]at C8;obtain⟨kc,kf⟩:=qe1 A0;rw[qy2]at kc kf;have a0:w1.cell? ⟨w.heap.size,0,none⟩=some (.pointer none):=(kc _ 0 (by omega) (by omega)).trans (q9 BC).1;have a1:w1.cell? ⟨w.heap.size+1,0,none⟩=some (.int .i64 0):=(kc _ 0 (by omega) (by omega)).trans (q9 BC).2.1;have a2:w1.cell? ⟨w.heap.size+2,0,none⟩=some (.int .i64 0):=(kc _ 0 (by omega) (by omega)).trans (q9 BC).2.2.1;have b0:w1.frozen? ⟨w.heap.size,0,none⟩=false:=(kf _ 0 (by omega) (by omega)).trans (q9 BC).2.2.2.1;have b1:w1.frozen? ⟨w.heap.size+1,0,none⟩=false:=(kf _ 0 (by omega) (by omega)).trans (q9 BC).2.2.2.2.1;have b2:w1.frozen? ⟨w.heap.size+2,0,none⟩=false:=(kf _ 0 (by omega) (by omega)).trans (q9 BC).2.2.2.2.2;have G0:=j3 ((q9 RDY).kept A0 A4 (q9 cG));have F3:=j3 A0;clear A4 A0 kc kf)|(go_at_call 55;refine(q9 EI w1 (j4 s st0) (q9 G0) rfl).mono ?_;rintro e w2⟨A3,h2⟩;rw[q9 D4]at h2;(first|subst h2|(obtain⟨v2,rfl,G8,A5,H8,I2,S8⟩:=h2;obtain⟨vb,rfl⟩:=G8.ptr;have G8:=j3 G8;have A5:=j3 A5;have H8:=j3 H8));have F8:=A3.size;obtain⟨kc,kf⟩:=qe1 A3;have c0:w2.cell? ⟨w.heap.size,0,none⟩=some (.pointer none):=(kc _ 0 (by omega) (by omega)).trans a0;have c1:w2.cell? ⟨w.heap.size+1,0,none⟩=some (.int .i64 0):=(kc _ 0 (by omega) (by omega)).trans a1;have c2:w2.cell? ⟨w.heap.size+2,0,none⟩=some (.int .i64 0):=(kc _ 0 (by omega) (by omega)).trans a2;have d0:w2.frozen? ⟨w.heap.size,0,none⟩=false:=(kf _ 0 (by omega) (by omega)).trans b0;have d1:w2.frozen? ⟨w.heap.size+1,0,none⟩=false:=(kf _ 0 (by omega) (by omega)).trans b1;have d2:w2.frozen? ⟨w.heap.size+2,0,none⟩=false:=(kf _ 0 (by omega) (by omega)).trans b2;have P5:=j3 ((q9 F3).trans A3);clear A3 kc kf a0 a1 a2 b0 b1 b2;try simp only[qd2])|(go_at_call 56;(first|(refine(qd1 (w.heap.size+3) s G4 0 (w2.setCell ⟨w.heap.size,0,none⟩ (.pointer (some ⟨vb,0,none⟩))) S7 (q9 H8).after ((q9 A5).setOther (by show ¬w.heap.size=w.heap.size+3;omega) _) (by rw[size_setCell];omega) (q9 DH _ _ (q9 P5)) (q9 HK)).mono ?_;rintro e w3⟨rfl,B8,A9⟩;clear B8)|(refine(qn0 (w.heap.size+3) s G4 0 (w2.setCell ⟨w.heap.size,0,none⟩ (.pointer (some ⟨vb,0,none⟩))) ((q9 A5).setOther (by show ¬w.heap.size=w.heap.size+3;omega) _) (by rw[size_setCell];omega) (q9 HK)).mono ?_;rintro e w3⟨rfl,A9⟩));have Q9:w2.heap.size<=w3.heap.size:=(by have:=A9.size;rw[size_setCell]at this;exact this);obtain⟨kc,kf⟩:=qe1 A9;rw[size_setCell]at kc kf;have g0:w3.cell? ⟨w.heap.size,0,none⟩=some (.pointer (some ⟨vb,0,none⟩)):=(kc _ 0 (by omega) (by omega)).trans (by simp[go_sem,c0]);have g1:w3.cell? ⟨w.heap.size+1,0,none⟩=some (.int .i64 0):=(kc _ 0 (by omega) (by omega)).trans (by simp[go_sem,c1]);have g2:w3.cell? ⟨w.heap.size+2,0,none⟩=some (.int .i64 0):=(kc _ 0 (by omega) (by omega)).trans (by simp[go_sem,c2]);have i0:w3.frozen? ⟨w.heap.size,0,none⟩=false:=(kf _ 0 (by omega) (by omega)).trans (by simp[go_sem,d0]);have i1:w3.frozen? ⟨w.heap.size+1,0,none⟩=false:=(kf _ 0 (by omega) (by omega)).trans (by simp[go_sem,d1]);have i2:w3.frozen? ⟨w.heap.size+2,0,none⟩=false:=(kf _ 0 (by omega) (by omega)).trans (by simp[go_sem,d2]);have R9:=j3 A9;clear A9 kc kf c0 c1 c2 d0 d1 d2;first|simp only[tkV]|simp only[qd2])|(go_at_call 57;refine(q9 CHK w3 (.pointer (some ⟨vb,0,none⟩)) ((q9 G8).above (((Above.mk (Nat.le_refl _) (λ_ _ _=>rfl)).setCell (p:=⟨w.heap.size,0,none⟩) (by show w.heap.size<=w.heap.size+3;omega) (.pointer (some ⟨vb,0,none⟩))).trans (q9 R9).above))).mono ?_;rintro e w4⟨L7,h4⟩;rw[q9 PU]at h4;subst h4;have ED:=L7.size;obtain⟨bc,bf⟩:=qb0 L7;have j0:w4.cell? ⟨w.heap.size,0,none⟩=some (.pointer (some ⟨vb,0,none⟩)):=(bc _ 0 (by omega)).trans g0;have j1:w4.cell? ⟨w.heap.size+1,0,none⟩=some (.int .i64 0):=(bc _ 0 (by omega)).trans g1;have j2:w4.cell? ⟨w.heap.size+2,0,none⟩=some (.int .i64 0):=(bc _ 0 (by omega)).trans g2;have l0:w4.frozen? ⟨w.heap.size,0,none⟩=false:=(bf _ 0 (by omega)).trans i0;have l1:w4.frozen? ⟨w.heap.size+1,0,none⟩=false:=(bf _ 0 (by omega)).trans i1;have l2:w4.frozen? ⟨w.heap.size+2,0,none⟩=false:=(bf _ 0 (by omega)).trans i2;have L7:=j3 L7;clear bc bf g0 g1 g2 i0 i1 i2;try simp only[qd2]))
   refine leaves_cons (f:=53) (args:=#[.pointer (some ⟨w.heap.size,0,none⟩),.pointer (some ⟨w.heap.size+1,0,none⟩),.pointer (some ⟨w.heap.size+2,0,none⟩)]) (by simp) (by simp[go_sem]) ?_
   first
    | (
     refine(qq2 w.heap.size (.pointer (some ⟨vb,0,none⟩)) (.int .i64 0) (.int .i64 0) _ _ [] w4 (by omega) j0 j1 j2 l0 l1 l2).mono ?_;rintro e u' w9⟨rfl,rfl,k0,k1,k2,sU⟩;have HB:=j3 ((((q9 R9).below (((q9 P5).below (q9 BB) (by omega) (by omega)).setCell (by show w.heap.size<=w.heap.size;omega) _) (by omega) (by rw[size_setCell];omega)).trans ((q9 L7).mono (by omega))).trans sU);simp[Leaves,settle,results,results36,go_sem,k0,k1,k2]
     exact⟨q9 HB,rfl⟩)
    | (
     have _q:=L7;refine(ju1 _ _ _ _).mono ?_;rintro e u' w9⟨rfl,rfl,rfl⟩;simp[Leaves,settle,results,results36,go_sem,j0,j1,j2];have A2:Above (w.heap.size+3) w2 w4:=(((Above.mk (Nat.le_refl _) (λ_ _ _=>rfl)).setCell (p:=⟨w.heap.size,0,none⟩) (by show w.heap.size<=w.heap.size+3;omega) (.pointer (some ⟨vb,0,none⟩))).trans (q9 R9).above).trans (Kept.of_below (q9 L7)).above;have B4:Below w.heap.size w w4:=((q9 R9).below (((q9 P5).below (q9 BB) (by omega) (by omega)).setCell (by show w.heap.size<=w.heap.size;omega) _) (by omega) (by rw[size_setCell];omega)).trans ((q9 L7).mono (by omega))
     exact⟨((B4.setCell (by show w.heap.size<=w.heap.size;omega) _).setCell (by show w.heap.size<=w.heap.size+1;omega) _).setCell (by show w.heap.size<=w.heap.size+1+1;omega) _,_,rfl,(q9 G8).above (((A2.setCell (by show w.heap.size<=w.heap.size+3;omega) _).setCell (by show w.heap.size+1<=w.heap.size+3;omega) _).setCell (by show w.heap.size+1+1<=w.heap.size+3;omega) _)⟩)
    | (
     refine(qq2 w.heap.size (.pointer (some ⟨vb,0,none⟩)) (.int .i64 0) (.int .i64 0) _ _ [] w3 (by omega) g0 g1 g2 i0 i1 i2).mono ?_;rintro e u' w9⟨rfl,rfl,k0,k1,k2,sU⟩;have HB:=j3 (((q9 R9).below (((q9 P5).below (q9 BB) (by omega) (by omega)).setCell (by show w.heap.size<=w.heap.size;omega) _) (by omega) (by rw[size_setCell];omega)).trans sU);simp[Leaves,settle,results,results36,go_sem,k0,k1,k2]
     exact⟨q9 HB,rfl⟩)
    | (
     refine(qq2 w.heap.size (.pointer none) (.int .i64 0) (.int .i64 0) _ _ [] w2 (by omega) c0 c1 c2 d0 d1 d2).mono ?_;rintro e u' w9⟨rfl,rfl,k0,k1,k2,sU⟩;have HB:=j3 (((q9 P5).below (q9 BB) (by omega) (by omega)).trans sU);simp[Leaves,settle,results,results36,go_sem,k0,k1,k2]
     exact⟨q9 HB,rfl⟩)
 ·rw[qg4,if_neg hs]
  have hb:decide ((200:Int)<(s.size:Int))=true:=decide_eq_true (by omega);clear hE cI hs
  go_enter_defers func36,ntmps36
  go_wp2_with fail
  have q0:(((w.alloc (.cells #[.pointer none] 67)).alloc (.cells #[.int .i64 1] 41)).alloc (.cells #[.int .i64 0] 3)).cell? ⟨w.heap.size,0,none⟩=some (.pointer none):=by
   rw[World.cell?_alloc_past _ _ _ (by simp<;>omega),World.cell?_alloc_past _ _ _ (by simp),World.cell?_alloc_at _ _ _ _ rfl];rfl
  have q1:(((w.alloc (.cells #[.pointer none] 67)).alloc (.cells #[.int .i64 1] 41)).alloc (.cells #[.int .i64 0] 3)).cell? ⟨w.heap.size+1,0,none⟩=some (.int .i64 1):=by
   rw[World.cell?_alloc_past _ _ _ (by simp),World.cell?_alloc_at _ _ _ _ (by simp)];rfl
  have q2:(((w.alloc (.cells #[.pointer none] 67)).alloc (.cells #[.int .i64 1] 41)).alloc (.cells #[.int .i64 0] 3)).cell? ⟨w.heap.size+1+1,0,none⟩=some (.int .i64 0):=by
   rw[World.cell?_alloc_at _ _ _ _ (by simp)];rfl
  simp[bodyPostD,Leaves,results,results36,go_sem,q0,q1,q2];exact⟨below3 _ _ _ _,rfl⟩
theorem TextsAt.any{lo:Nat}{w:World}{v:Value}{ts:List (List UInt8)}(h:TextsAt lo w v ts):∃a c,v=.slice a ts.length c/\∀(j:Nat) (t:List UInt8),ts[j]?=some t->∃g,a=some ⟨g,0,none⟩/\g<w.heap.size/\w.cell? ⟨g,j,none⟩=some (.string (BS t)):=by
 rcases h with⟨rfl,rfl⟩|⟨g,c,rfl,_,h2,h3⟩
 ·exact⟨none,0,rfl,λj t hj=>by simp at hj⟩
 ·exact⟨_,c,rfl,λj t hj=>⟨g,rfl,h2,h3 j t hj⟩⟩
def qr2:List UInt8->List UInt8
 | []=>[]
 | c::r=>if c==39 then 39::39::qr2 r else c::qr2 r
theorem jj3(a b:List UInt8):qr2 (a++b)=qr2 a++qr2 b:=by
 induction a with
 | nil=>rfl
 | cons c r ih=>
  rw[List.cons_append,qr2,qr2,ih]
  split<;>rfl
theorem jq7(a:List UInt8):(qr2 a).length<=2 * a.length:=by
 induction a with
 | nil=>exact Nat.le_refl _
 | cons c r ih=>rw[qr2];split<;>simp<;>omega
theorem quotF_end(r:List UInt8)(h:∀c,r.head?=some c->(c==39)=false):qe2 (39::r)=some ([],1):=by
 cases r with
 | nil=>rfl
 | cons d t=>rw[qe2,if_pos (by decide),if_neg (by rw[h d rfl];decide)]
theorem quotF_dbl(r:List UInt8)(h:∀c,r.head?=some c->(c==39)=false)(s:List UInt8):qe2 (qr2 s++39::r)=some (s,(qr2 s).length+1):=by
 induction s with
 | nil=>exact quotF_end r h
 | cons c t ih=>
  rw[qr2]
  by_cases hc:(c==39)=true
  ·rw[if_pos hc]
   show qe2 (39::39::(qr2 t++39::r))=_;rw[qe2,if_pos (by decide),if_pos (by decide),ih,eq_of_beq hc];rfl
  ·rw[if_neg hc]
   cases hd:qr2 t++39::r with
   | nil=>simp at hd
   | cons d u=>
    show qe2 (c::(qr2 t++39::r))=_;rw[hd,qe2,if_neg hc,←hd,ih];rfl
structure LibOk(w:World):Prop where
 err:ErrOk w
 max:4<w.heap.size/\∃m,w.cell? ⟨4,0,none⟩=some (.int .i64 m)
 pow : Lib.TabIs prog w "internal/strconv.uint64pow10" .u64 Lib.pow10Tab
theorem LibOk.below{w w':World}{B:Nat}(h:LibOk w)(hb:Below B w w')(hB:w.heap.size<=B):LibOk w':=by
 obtain⟨hz,m,hm⟩:=h.max;exact⟨h.err.below hb hB,⟨Nat.lt_of_lt_of_le hz (by have:=hb.size;omega),m,(hb.cell (p:=⟨4,0,none⟩) (Nat.lt_of_lt_of_le hz hB)).trans hm⟩,(Lib.tabBelow_of_tabIs h.pow) w' (hb.mono hB)⟩
theorem LibOk.alloc{w:World}(h:LibOk w)(o:Obj):LibOk (w.alloc o):=h.below ((Below.refl _ _).alloc (Nat.le_refl _) o) (Nat.le_refl _)
structure CP where
 op:Int
 num:Int
 str:List UInt8
 esc:List UInt8
inductive Co where
 | leaf (p:CP)
 | un (p:CP) (x:Co)
 | bin (p:CP) (x y:Co)
def qL(s:List UInt8):List UInt8:=39::(qr2 s++[39])
def qi6(op:Int):List UInt8:=
 if op==6 then[65,78,68] else if op==7 then[79,82] else if op==8 then[61] else if op==10 then[60] else if op==11 then[60,61]
 else if op==16 then[43] else if op==17 then[45] else if op==18 then[42] else[47]
def vz3(e:List UInt8):List UInt8:=if e.isEmpty then[] else[32,69,83,67,65,80,69,32]++qL e
def qb1(p:CP)(l r:List UInt8):List UInt8:=
 if p.op==0 then p.str else if p.op==1 then Lib.itoa p.num else if p.op==2 then qL p.str else if p.op==3 then[84,82,85,69] else if p.op==4 then[70,65,76,83,69]
 else if p.op==5 then[40,78,79,84,32]++l++[41] else if p.op==23 then[40]++l++[32,73,83,32,78,85,76,76,41]
 else if p.op==22 then[40]++l++[32,76,73,75,69,32]++qL p.str++vz3 p.esc++[41]
 else[40]++l++[32]++qi6 p.op++[32]++r++[41]
def x9:Co->List UInt8
 | .leaf p=>qb1 p [] []
 | .un p x=>qb1 p (x9 x) []
 | .bin p x y=>qb1 p (x9 x) (x9 y)
def opC:Co->Int
 | .leaf p=>p.op
 | .un p _=>p.op
 | .bin p _ _=>p.op
def qa0(op:Int):CP:=⟨op,0,[],[]⟩
def qw2(op:Int):Bool:=op==6||op==7||op==8||op==16||op==18
def j9(op:Int)(x y:Co):Co:=if qw2 op&&Op.bytesLess (x9 y) (x9 x) then .bin (qa0 op) y x else .bin (qa0 op) x y
def qd8:Co->Co
 | .leaf p=>if p.op==3 then .leaf (qa0 4) else if p.op==4 then .leaf (qa0 3) else .un (qa0 5) (.leaf p)
 | .un p x=>if p.op==5&&opC x != 0 then x else .un (qa0 5) (.un p x)
 | .bin p x y=>if p.op==6 then j9 7 (qd8 x) (qd8 y) else if p.op==7 then j9 6 (qd8 x) (qd8 y)
   else if p.op==10 then j9 11 y x else if p.op==11 then j9 10 y x else .un (qa0 5) (.bin p x y)
def qd4(s:List UInt8):Co:=.leaf ⟨2,0,s,[]⟩
def qz1(n:Int):Co:=.leaf ⟨1,n,[],[]⟩
def qm8(x:Co):Co->List (List UInt8)->Co
 | f,[]=>f
 | f,t::r=>qm8 x (j9 7 f (j9 8 x (qd4 t))) r
def qe5(ts:List (List UInt8)):List (List UInt8):=Lib.compact (ts.mergeSort λx y=>decide (x<=y))
def qh1(x:Co)(ts:List (List UInt8)):Co:=match qe5 ts with
 | []=>x
 | t::r=>qm8 x (j9 8 x (qd4 t)) r
def qt4(p:Pay):CP:=⟨p.op,p.num,p.str,p.esc⟩
def j8:Ast->Co
 | .leaf p=>.leaf (qt4 p)
 | .un p x=>if p.op==14 then j9 16 (qz1 0) (j8 x) else if p.op==15 then j9 17 (qz1 0) (j8 x) else if p.op==5 then qd8 (j8 x)
   else if p.op==21 then qh1 (j8 x) p.texts else .un (qt4 p) (j8 x)
 | .bin p x y=>if p.op==12 then j9 10 (j8 y) (j8 x) else if p.op==13 then j9 11 (j8 y) (j8 x) else if p.op==9 then qd8 (j9 8 (j8 x) (j8 y)) else j9 p.op (j8 x) (j8 y)
 | .tri _ x y z=>j9 6 (j9 11 (j8 y) (j8 x)) (j9 11 (j8 x) (j8 z))
structure CellsC(B E:Nat)(w:World)(b:Nat)(p:CP)(l r:Value)(t:List UInt8):Prop where
 lo:B<=b
 hi:b<E
 within:b<w.heap.size
 c0:w.cell? ⟨b,0,none⟩=some (.int .i64 p.op)
 c1:w.cell? ⟨b,1,none⟩=some l
 c2:w.cell? ⟨b,2,none⟩=some r
 c3:w.cell? ⟨b,3,none⟩=some (.int .i64 p.num)
 c4:w.cell? ⟨b,4,none⟩=some (.string (BS p.str))
 c5:w.cell? ⟨b,5,none⟩=some (.string (BS p.esc))
 c6:w.cell? ⟨b,6,none⟩=some (.string (BS t))
def nilP:Value:=.pointer none
def at0(b:Nat):Value:=.pointer (some ⟨b,0,none⟩)
def CoAt(B E:Nat)(w:World)(v:Value):Co->Prop
 | .leaf p=>∃b,v=at0 b/\CellsC B E w b p nilP nilP (x9 (.leaf p))
 | .un p x=>∃b vx,v=at0 b/\CellsC B E w b p vx nilP (x9 (.un p x))/\CoAt B E w vx x
 | .bin p x y=>∃b vx vy,v=at0 b/\CellsC B E w b p vx vy (x9 (.bin p x y))/\CoAt B E w vx x/\CoAt B E w vy y
theorem CellsC.keep{B E E':Nat}{w w':World}{b:Nat}{p:CP}{l r:Value}{t:List UInt8}(h:CellsC B E w b p l r t)(hE:E<=E')(hk:∀k,B<=k->k<E->w'.heap[k]?=w.heap[k]?)(hz:w.heap.size<=w'.heap.size):CellsC B E' w' b p l r t:=by
 have hc:∀j,w'.cell? ⟨b,j,none⟩=w.cell? ⟨b,j,none⟩:=λj=>World.cell?_of_block (w:=w) (w':=w') (a:=⟨b,j,none⟩) (hk b h.lo h.hi)
 exact⟨h.lo,Nat.lt_of_lt_of_le h.hi hE,Nat.lt_of_lt_of_le h.within hz,(hc 0).trans h.c0,(hc 1).trans h.c1,(hc 2).trans h.c2,(hc 3).trans h.c3,(hc 4).trans h.c4,(hc 5).trans h.c5,(hc 6).trans h.c6⟩
theorem CoAt.keep{B E E':Nat}{w w':World}(hE:E<=E')(hk:∀k,B<=k->k<E->w'.heap[k]?=w.heap[k]?)(hz:w.heap.size<=w'.heap.size):∀{c:Co} {v:Value},CoAt B E w v c->CoAt B E' w' v c:=by
 intro c
 induction c with
 | leaf p=>rintro v⟨b,rfl,h⟩;exact⟨b,rfl,h.keep hE hk hz⟩
 | un p x ih=>rintro v⟨b,vx,rfl,h,hx⟩;exact⟨b,vx,rfl,h.keep hE hk hz,ih hx⟩
 | bin p x y ihx ihy=>rintro v⟨b,vx,vy,rfl,h,hx,hy⟩;exact⟨b,vx,vy,rfl,h.keep hE hk hz,ihx hx,ihy hy⟩
theorem CoAt.below{B:Nat}{w w':World}(hb:Below w.heap.size w w'){c:Co}{v:Value}(h:CoAt B w.heap.size w v c):CoAt B w'.heap.size w' v c:=
 h.keep hb.size (λk _ hk=>hb.block k hk) hb.size
theorem CoAt.head{B E:Nat}{w:World}{v:Value}{c:Co}(h:CoAt B E w v c):∃b p l r,v=at0 b/\p.op=opC c/\CellsC B E w b p l r (x9 c):=by
 cases c with
 | leaf p=>obtain⟨b,rfl,h⟩:=h;exact⟨b,p,_,_,rfl,rfl,h⟩
 | un p x=>obtain⟨b,vx,rfl,h,_⟩:=h;exact⟨b,p,_,_,rfl,rfl,h⟩
 | bin p x y=>obtain⟨b,vx,vy,rfl,h,_⟩:=h;exact⟨b,p,_,_,rfl,rfl,h⟩
def TextAt(w:World)(v:Value)(t:List UInt8):Prop:=∃b,v=at0 b/\b<w.heap.size/\w.cell? ⟨b,6,none⟩=some (.string (BS t))
theorem CoAt.text{B E:Nat}{w:World}{v:Value}{c:Co}(h:CoAt B E w v c):TextAt w v (x9 c):=by
 obtain⟨b,p,l,r,rfl,_,h⟩:=h.head;exact⟨b,rfl,h.within,h.c6⟩
theorem qg8(s t:ByteArray)(m n:Nat)(hs:s.size<=m)(ht:t.size<=n)(h:m+n<=9000000000):∃r,r=s++t/\r.size<=m+n/\∀w:World,(Op.stringOp .add s t).run prog w=.ok (.string r) w:=
 ⟨s++t,rfl,by rw[ByteArray.size_append];omega,λw=>run_string_add_sum (P:=prog) (w:=w) _ _ (by omega)⟩
theorem qg9(a b:List UInt8):BS a++BS b=BS (a++b):=by
 apply ByteArray.ext;apply Array.ext';simp[BS]
theorem rk_take(s:ByteArray)(k:Nat)(h:k<s.size):s.data.toList.take (k+1)=s.data.toList.take k++[s[k]]:=by
 rw[List.take_add_one,List.getElem?_eq_getElem (by rw[qa5];exact h),qb2 s k h];rfl
theorem rk_one(s:ByteArray)(k:Nat)(h:k<s.size):s.extract k (k+1)=BS [s[k]]:=by
 have:(s.extract k (k+1)).data.toList=[s[k]]:=by
  rw[Lib.extract_data,Nat.add_sub_cancel_left,List.drop_eq_getElem_cons (by rw[qa5];exact h),qb2 s k h];simp
 apply ByteArray.ext;apply Array.ext';exact this
theorem rk_39(c:UInt8):((c.toNat:Int)==39)=(c==39):=by
 rw[Bool.eq_iff_iff,beq_iff_eq,beq_iff_eq];constructor
 ·intro h
  apply UInt8.toNat.inj;have:c.toNat=39:=by omega
  rw[this];rfl
 ·intro h;rw[h];rfl
theorem rk_dbl(l:List UInt8)(c:UInt8):qr2 (l++[c])=if c==39 then qr2 l++[39,39] else qr2 l++[c]:=by
 rw[jj3]
 by_cases h:(c==39)=true
 ·rw[if_pos h];simp only[qr2,if_pos h]
 ·rw[if_neg h];simp only[qr2,if_neg h]
theorem rk_dlen(l:List UInt8):(qr2 l).length<=2 * l.length:=by
 induction l with
 | nil=>exact Nat.zero_le _
 | cons c r ih=>
  rw[qr2]
  split<;>simp<;>omega
theorem qq9(s:ByteArray)(hs:s.size<=1000)(w:World):
  Calls prog 226 #[.string s] w λe w'=>e=.returned (.string (BS (qL s.data.toList)))/\w'=w:=by
 have hl:=qa5 s;go_enter func226,ntmps226
 go_wp2_with fail
 go_loop [3,4] (λo i=>∃k:Nat,k<=s.size/\i=.int .i64 k/\o=.string (BS (39::qr2 (s.data.toList.take k)))) (λ_ i=>s.size - (intOf i).toNat)
 case atStart=>exact⟨0,Nat.zero_le _,rfl,rfl⟩
 case round=>
  obtain⟨k,hk,rfl,rfl⟩:=hrel;have hz:=rk_dlen (s.data.toList.take k);rw[List.length_take,hl]at hz;obtain⟨O,hO⟩:∃O,BS (39::qr2 (s.data.toList.take k))=O:=⟨_,rfl⟩;have zO:O.size<=2001:=by rw[←hO,qc1,List.length_cons];omega
  by_cases A1:k<s.size
  ·have hX:=rk_one s k A1
   have zX:(s.extract k (k+1)).size<=1:=by rw[hX,qc1];exact Nat.le_refl _
   have hT:=rk_take s k A1
   cases hq:(s[k]==39) with
   | true=>
    have vI:((s[k].toNat:Int)==39)=true:=by rw[rk_39];exact hq
    obtain⟨Y,eY,zY,aY⟩:=qg8 O ⟨#[39]⟩ 2001 1 zO (Nat.le_refl _) (by decide);obtain⟨Z,eZ,zZ,aZ⟩:=qg8 Y (s.extract k (k+1)) 2002 1 zY zX (by decide)
    have HZ:Hid (Z=BS (39::qr2 (s.data.toList.take (k+1)))):=j3 (by
     rw[eZ,eY,←hO,hX,show(⟨#[39]⟩:ByteArray)=BS [39] from rfl,qg9,qg9,hT,rk_dbl,if_pos hq,eq_of_beq hq]
     simp)
    rw[hO];clear hO hz zO hX zX hT hq eY zY eZ zZ
    go_wp2_with fail
    go_round
    case rel=>exact⟨k+1,by omega,by go_num,by rw[q9 HZ]⟩
    case measure=>simp[intOf];omega
   | false=>
    have vI:((s[k].toNat:Int)==39)=false:=by rw[rk_39];exact hq
    obtain⟨Z,eZ,zZ,aZ⟩:=qg8 O (s.extract k (k+1)) 2001 1 zO zX (by decide)
    have HZ:Hid (Z=BS (39::qr2 (s.data.toList.take (k+1)))):=j3 (by
     rw[eZ,←hO,hX,qg9,hT,rk_dbl,if_neg (by rw[hq];decide)]
     simp)
    rw[hO];clear hO hz zO hX zX hT hq eZ zZ
    go_wp2_with fail
    go_round
    case rel=>exact⟨k+1,by omega,by go_num,by rw[q9 HZ]⟩
    case measure=>simp[intOf];omega
  ·obtain rfl:k=s.size:=by omega
   obtain⟨Y,eY,zY,aY⟩:=qg8 O ⟨#[39]⟩ 2001 1 zO (Nat.le_refl _) (by decide)
   have HY:Hid (Y=BS (qL s.data.toList)):=j3 (by
    rw[eY,←hO,show(⟨#[39]⟩:ByteArray)=BS [39] from rfl,qg9,List.take_of_length_le (by rw[hl];exact Nat.le_refl _)]
    rfl)
   rw[hO];clear hO hz zO eY zY
   go_wp2_with fail
   go_ret;exact⟨by rw[q9 HY];rfl,rfl⟩
theorem dig_len(u:Nat)(h:u<=9223372036854775807):(Lib.decDigits u).length<=21:=by
 have:=Lib.itoa_length_le (u:Int) (by omega) (by omega);rwa [Lib.itoa_nonneg]at this
theorem je9:∀(u:Nat),u<=9223372036854775807->∀w:World,Calls prog 225 #[.int .i64 (u:Int)] w λe w'=>e=.returned (.string (BS (Lib.decDigits u)))/\Below w.heap.size w w':=by
 intro u
 induction u using Nat.strongRecOn with
 | _ u ih=>
  intro hu w;have hd:(UInt8.ofNat (48+u % 10)).toNat=48+u % 10:=by rw[UInt8.toNat_ofNat'];omega
  have CV:∀w:World,(convert 51 9 (.slice (some ⟨w.heap.size,0,none⟩) 1 1)).run prog (w.alloc (.cells #[.int .u8 (48+(u:Int) % 10)] 5))=.ok (.string (BS [UInt8.ofNat (48+u % 10)])) (w.alloc (.cells #[.int .u8 (48+(u:Int) % 10)] 5)):=λw=>by
   have:=jq3 (UInt8.ofNat (48+u % 10)) w;rw[hd,show((48+u % 10:Nat):Int)=48+(u:Int) % 10 by omega]at this;exact this
  have QG:=CV w;obtain⟨S,hS⟩:∃S,BS [UInt8.ofNat (48+u % 10)]=S:=⟨_,rfl⟩;rw[hS]at QG;have SB:(0:Int)<=(u:Int):=by omega
  have SA:(u:Int)<=9223372036854775807:=by omega
  by_cases h:u<10
  ·have hr:Lib.decDigits u=[UInt8.ofNat (48+u % 10)]:=by rw[Lib.decDigits_one h,Nat.mod_eq_of_lt h]
   rw[hr,hS];have h1:(u:Int)<10:=by omega
   clear CV hd hr ih hS;go_enter func225,ntmps225
   go_wp2_with fail
   go_ret;exact⟨rfl,(Below.refl _ _).alloc (Nat.le_refl _) _⟩
  ·have hr:Lib.decDigits u=Lib.decDigits (u / 10)++[UInt8.ofNat (48+u % 10)]:=by rw[Lib.decDigits,dif_neg h]
   have h1:¬(u:Int)<10:=by omega
   have IH:Hid (∀w,Calls prog 225 #[.int .i64 ((u:Int) / 10)] w λe w'=>e=.returned (.string (BS (Lib.decDigits (u / 10))))/\Below w.heap.size w w'):=j3 λw=>by
    have:=ih (u / 10) (by omega) (by omega) w;rwa [show((u / 10:Nat):Int)=(u:Int) / 10 by omega]at this
   obtain⟨A,hA⟩:∃A,BS (Lib.decDigits (u / 10))=A:=⟨_,rfl⟩;obtain⟨R,eR,zR,aR⟩:=qg8 A S 21 1 (by rw[←hA,qc1];exact dig_len _ (by omega)) (by rw[←hS,qc1];exact Nat.le_refl _) (by decide);have HR:Hid (BS (Lib.decDigits u)=R):=j3 (by rw[hr,eR,←hA,←hS,qg9]);rw[hA]at IH;rw[q9 HR];clear CV hd hr ih hS hA eR zR;go_enter func225,ntmps225
   go_wp2_with(go_at_call 225;refine(q9 IH _).mono ?_;rintro e w1⟨rfl,A7⟩)
   go_ret;exact⟨rfl,j6 ((Below.refl _ _).alloc (Nat.le_refl _) _) A7⟩
def Bq(p:Pay):Prop:=p.esc.length<=1/\∀x∈p.texts,x.length<=200
def BqA:Ast->Prop
 | .leaf p=>Bq p
 | .un p x=>Bq p/\BqA x
 | .bin p x y=>Bq p/\BqA x/\BqA y
 | .tri p x y z=>Bq p/\BqA x/\BqA y/\BqA z
theorem bq0(op pl num:Int):Bq ⟨op,pl,num,[],[],[]⟩:=⟨by simp,by simp⟩
theorem bq1{op pl num:Int}{s:List UInt8}:Bq ⟨op,pl,num,s,[],[]⟩:=⟨by simp,by simp⟩
def QGood(f:St->Res):Prop:=∀st t st',vz9 st->f st=.ok t st'->BqA t/\vz9 st'
def vz7(g:Ast->St->Res):Prop:=∀l st t st',BqA l->vz9 st->g l st=.ok t st'->BqA t/\vz9 st'
theorem QGood.join{s:ByteArray}(H:s.size<=200){f:St->Res}(h:QGood f):∀st l t st',BqA l->qf1 s f st l=.ok t st'->BqA t/\vz9 st':=by
 intro st l t st' hl he;unfold qf1 at he
 split at he
 ·rename_i r G4 hr;injection he with h1 h2;subst h1;subst h2
  have:=h _ _ _ (qa4 H st) hr;exact⟨⟨(bq0 _ _ _),hl,this.1⟩,this.2⟩
 ·cases he
theorem QGood.loop{s:ByteArray}(H:s.size<=200){f:St->Res}{ks:List Int}(h:QGood f):∀n l st t st',BqA l->vz9 st->qc7 s f ks n l st=.ok t st'->BqA t/\vz9 st':=by
 intro n
 induction n with
 | zero=>intro l st t st' hl hs he;rw[qc7]at he;injection he with h1 h2;subst h1;subst h2;exact⟨hl,hs⟩
 | succ n ih=>
  intro l st t st' hl hs he;rw[qc7]at he
  split at he
  ·split at he
   ·rename_i hj;have:=h.join H _ _ _ _ hl hj;exact ih _ _ _ _ this.1 this.2 he
   ·cases he
  ·injection he with h1 h2;subst h1;subst h2;exact⟨hl,hs⟩
theorem QGood.row{s:ByteArray}(H:s.size<=200){f:St->Res}{ks:List Int}(h:QGood f):QGood (qf0 s f ks):=by
 intro st t st' hs he;unfold qf0 at he
 split at he
 ·rename_i hr;have:=h _ _ _ hs hr;exact h.loop H _ _ _ _ _ this.1 this.2 he
 ·cases he
theorem QGood.sign{s:ByteArray}(H:s.size<=200){f:St->Res}(h:QGood f)(o:Int):QGood (qd9 s f o):=by
 intro st t st' _ he;unfold qd9 at he
 split at he
 ·cases he
 ·split at he
  ·rename_i hr;injection he with h1 h2;subst h1;subst h2
   have:=h (qk2 s st) _ _ (qa4 H st) hr;exact⟨⟨(bq0 _ _ _),this.1⟩,this.2⟩
  ·cases he
theorem QGood.group{s:ByteArray}(H:s.size<=200){f:St->Res}(h:QGood f):QGood (qd3 s f):=by
 intro st t st' _ he;unfold qd3 at he
 split at he
 ·cases he
 ·split at he
  ·rename_i hr;split at he
   ·injection he with h1 h2;subst h1;subst h2
    exact⟨(h (qk2 s st) _ _ (qa4 H st) hr).1,qa4 H _⟩
   ·cases he
  ·cases he
theorem QGood.signed{s:ByteArray}(H:s.size<=200){fS fE:St->Res}(hS:QGood fS)(hE:QGood fE):QGood (qc5 s fS fE):=by
 intro st t st' hs he;unfold qc5 at he
 split at he
 ·exact hS.sign H 14 _ _ _ hs he
 split at he
 ·exact hS.sign H 15 _ _ _ hs he
 split at he
 ·exact hE.group H _ _ _ hs he
 split at he
 ·injection he with h1 h2;subst h1;subst h2;exact⟨bq1,qa4 H st⟩
 split at he
 ·injection he with h1 h2;subst h1;subst h2;exact⟨(bq0 _ _ _),qa4 H st⟩
 split at he
 ·injection he with h1 h2;subst h1;subst h2;exact⟨bq1,qa4 H st⟩
 split at he
 ·injection he with h1 h2;subst h1;subst h2;exact⟨(bq0 _ _ _),qa4 H st⟩
 split at he
 ·injection he with h1 h2;subst h1;subst h2;exact⟨(bq0 _ _ _),qa4 H st⟩
 ·cases he
theorem bq_isNull{s:ByteArray}(H:s.size<=200):vz7 (qd0 s):=by
 intro l st t st' hl _ he;unfold qd0 at he
 split at he
 ·split at he
  ·injection he with h1 h2;subst h1;subst h2;exact⟨⟨(bq0 _ _ _),(bq0 _ _ _),hl⟩,qa4 H _⟩
  ·cases he
 ·split at he
  ·injection he with h1 h2;subst h1;subst h2;exact⟨⟨(bq0 _ _ _),hl⟩,qa4 H _⟩
  ·cases he
theorem bq_inLoop{s:ByteArray}(H:s.size<=200){l:Ast}{pl:Nat}(hl:BqA l):∀n ts st t st',(∀x∈ts,x.length<=200)->qf2 s l pl n ts st=.ok t st'->BqA t/\vz9 st':=by
 intro n
 induction n with
 | zero=>intro ts st t st' _ he;rw[qf2]at he;cases he
 | succ n ih=>
  intro ts st t st' hn he;rw[qf2]at he
  split at he
  ·split at he
   ·refine ih _ _ _ _ (λx hx=>?_) he
    rcases List.mem_append.1 hx with hx|hx
    ·exact hn x hx
    ·simp at hx;subst hx;exact qa4 H st
   ·cases he
  ·split at he
   ·injection he with h1 h2;subst h1;subst h2;exact⟨⟨⟨by simp,hn⟩,hl⟩,qa4 H _⟩
   ·cases he
theorem bq_in{s:ByteArray}(H:s.size<=200):vz7 (qg7 s):=by
 intro l st t st' hl _ he;unfold qg7 at he
 split at he
 ·split at he
  ·exact bq_inLoop H hl _ _ _ _ _ (λx hx=>by simp at hx;subst hx;exact qa4 H _) he
  ·cases he
 ·cases he
theorem jv4{s:ByteArray}{ft:Tk}{fp:Nat}{st:St}{str:List UInt8}{st':St}(h:qq3 s ft fp st=.ok str st'):str.length<=1:=by
 unfold qq3 at h
 split at h
 ·split at h
  ·rename_i h1
   split at h
   ·injection h with e1 _;subst e1;omega
   ·cases h
  ·cases h
 ·cases h
theorem bq_like{s:ByteArray}(H:s.size<=200):vz7 (qb5 s):=by
 intro l st t st' hl _ he;unfold qb5 at he
 split at he
 ·split at he
  ·split at he
   ·rename_i hk;injection he with h1 h2;subst h1;subst h2;rw[(qw3 hk).2];exact⟨⟨⟨jv4 hk,by simp⟩,hl⟩,qa4 H _⟩
   ·cases he
  ·injection he with h1 h2;subst h1;subst h2;exact⟨⟨⟨by simp,by simp⟩,hl⟩,qa4 H _⟩
 ·cases he
theorem QGood.between{s:ByteArray}(H:s.size<=200){f:St->Res}(h:QGood f):vz7 (qa9 s f):=by
 intro l st t st' hl _ he;unfold qa9 at he
 split at he
 ·split at he
  ·rename_i h1;split at he
   ·split at he
    ·rename_i h2;injection he with h3 h4;subst h3;subst h4
     have a:=h _ _ _ (qa4 H _) h1;have b:=h _ _ _ (qa4 H _) h2;exact⟨⟨(bq0 _ _ _),hl,a.1,b.1⟩,b.2⟩
    ·cases he
   ·cases he
  ·cases he
 ·cases he
theorem QGood.keyword{s:ByteArray}(H:s.size<=200){f:St->Res}(h:QGood f)(bare:Bool):vz7 (qb6 s f (qg7 s) (qb5 s) bare):=by
 intro l st t st' hl hs he;unfold qb6 at he
 split at he
 ·exact bq_in H _ _ _ _ hl hs he
 split at he
 ·exact bq_like H _ _ _ _ hl hs he
 ·exact h.between H _ _ _ _ hl hs he
theorem QGood.test{s:ByteArray}(H:s.size<=200){f:St->Res}(h:QGood f):QGood (qf6 s f (qg7 s) (qb5 s)):=by
 intro st t st' hs he;unfold qf6 at he
 split at he
 ·rename_i hr
  obtain⟨hl,S7⟩:=h _ _ _ hs hr;unfold qh8 at he
  split at he
  ·exact h.join H _ _ _ _ hl he
  split at he
  ·split at he
   ·exact bq_isNull H _ _ _ _ hl S7 he
   ·injection he with h1 h2;subst h1;subst h2;exact⟨hl,S7⟩
  split at he
  ·split at he
   ·rename_i hk;injection he with h1 h2;subst h1;subst h2
    have:=h.keyword H _ _ _ _ _ hl (qa4 H _) hk;exact⟨⟨(bq0 _ _ _),this.1⟩,this.2⟩
   ·cases he
  split at he
  ·exact h.keyword H _ _ _ _ _ hl S7 he
  ·injection he with h1 h2;subst h1;subst h2;exact⟨hl,S7⟩
 ·cases he
theorem QGood.denied{s:ByteArray}(H:s.size<=200){fD fT:St->Res}(hD:QGood fD)(hT:QGood fT):QGood (qe0 s fD fT):=by
 intro st t st' hs he;unfold qe0 at he
 split at he
 ·exact hD.sign H 5 _ _ _ hs he
 ·exact hT _ _ _ hs he
structure QGood3(L:L3):Prop where
 S:QGood L.S
 D:QGood L.D
 E:QGood L.E
theorem up3_bq{s:ByteArray}(H:s.size<=200){L:L3}(h:QGood3 L):QGood3 (up3 s L):=by
 have hS:=QGood.signed (s:=s) H h.S h.E;have hD:=QGood.denied (s:=s) H h.D (QGood.test (s:=s) H ((hS.row (s:=s) H (ks:=[24,25])).row (s:=s) H (ks:=[22,23])));exact⟨hS,hD,(hD.row (s:=s) H (ks:=[5])).row (s:=s) H (ks:=[6])⟩
theorem lvl_bq(s:ByteArray)(H:s.size<=200):∀d,QGood3 (lvl s d):=by
 intro d
 induction d with
 | zero=>exact up3_bq H ⟨(λ_ _ _ _ h=>by cases h),(λ_ _ _ _ h=>by cases h),(λ_ _ _ _ h=>by cases h)⟩
 | succ d ih=>exact up3_bq H ih
structure Bz(p:Pay):Prop where
 name:p.op=0->p.num=0/\p.esc=[]/\vw0 p.str=true
 num:p.op=1->0<=p.num/\p.str=[]/\p.esc=[]
 text:p.op=2->p.num=0/\p.esc=[]
 bare:p.op=3\/p.op=4\/p.op=5\/p.op=23->p.num=0/\p.str=[]/\p.esc=[]
 like:p.op=22->p.num=0/\(p.esc=[]\/p.esc.length=1/\(qs5 p.esc p.str).isSome=true)
def BzA:Ast->Prop
 | .leaf p=>Bz p
 | .un p x=>Bz p/\BzA x
 | .bin p x y=>Bz p/\BzA x/\BzA y
 | .tri p x y z=>Bz p/\BzA x/\BzA y/\BzA z
theorem bz0{op pl:Int}(h:op≠0):Bz ⟨op,pl,0,[],[],[]⟩:=⟨λe=>absurd e h,λ_=>⟨Int.le_refl _,rfl,rfl⟩,λ_=>⟨rfl,rfl⟩,λ_=>⟨rfl,rfl,rfl⟩,λ_=>⟨rfl,.inl rfl⟩⟩
theorem bz_name{pl:Int}{s:List UInt8}(h:vw0 s=true):Bz ⟨0,pl,0,s,[],[]⟩:=by
 constructor<;>intro e<;>simp at e
 exact⟨rfl,rfl,h⟩
theorem bz_num{pl n:Int}(h:0<=n):Bz ⟨1,pl,n,[],[],[]⟩:=by
 constructor<;>intro e<;>simp at e
 exact⟨h,rfl,rfl⟩
theorem bz_text{pl:Int}{s:List UInt8}:Bz ⟨2,pl,0,s,[],[]⟩:=by
 constructor<;>intro e<;>simp at e
 exact⟨rfl,rfl⟩
theorem bz_among{pl:Int}{ts:List (List UInt8)}:Bz ⟨21,pl,0,[],[],ts⟩:=by
 constructor<;>intro e<;>simp at e
theorem bz_lk{pl:Int}{s e:List UInt8}(h:e=[]\/e.length=1/\(qs5 e s).isSome=true):Bz ⟨22,pl,0,s,e,[]⟩:=by
 constructor<;>intro e<;>simp at e
 exact⟨rfl,h⟩
theorem opOf_ne(k:Int):ve4 k≠0:=by
 unfold ve4
 repeat' split
 all_goals decide
theorem jp4(p:UInt8->Bool):∀(l:List UInt8) (n:Nat),n<=qa3 p l->qa3 p (l.take n)=n:=by
 intro l
 induction l with
 | nil=>intro n h;simp[qa3]at h;subst h;rfl
 | cons c t ih=>
  intro n h
  cases n with
  | zero=>rfl
  | succ n=>
   unfold qa3 at h
   by_cases hc:p c=true
   ·rw[if_pos hc]at h
    have:=ih n (by omega);simp[qa3,hc,this]
   ·rw[if_neg hc]at h
    omega
theorem name_tk{l:List UInt8}(h:(qd6 l).kind=2):vw0 (qd6 l).str=true:=by
 cases l with
 | nil=>simp[qd6,j7]at h
 | cons c t=>
  by_cases hb:qs3 c=true
  ·have e:qd6 (c::t)=qh4 (c::t):=by simp[qd6,hb]
   rw[e]at h ⊢
   by_cases hw:vb0 ((c::t).take (qa8 (c::t)))=2
   ·have e2:qh4 (c::t)=⟨2,0,(c::t).take (qa8 (c::t))⟩:=by unfold qh4;rw[if_pos hw]
    rw[e2];have hs:qa8 (c::t)=qa3 qv5 t+1:=by simp[qa8,hb]
    have hz:qa8 ((c::t).take (qa8 (c::t)))=qa8 (c::t):=by
     rw[hs,List.take_succ_cons];simp only[qa8,hb,if_true];rw[jp4 qv5 t _ (Nat.le_refl _)]
    have hl:=qr1 (c::t);unfold vw0;simp only[hz,hw,List.length_take];rw[Nat.min_eq_left hl];simp[hs]
   ·have e2:qh4 (c::t)=j7 (vb0 ((c::t).take (qa8 (c::t)))):=by unfold qh4;rw[if_neg hw]
    rw[e2]at h;exact absurd h hw
  ·exfalso
   have hb:qs3 c=false:=by simpa using hb
   by_cases hd:qh3 c=true
   ·have e:qd6 (c::t)=qp5 (c::t):=by simp[qd6,hb,hd]
    rw[e]at h;unfold qp5 at h
    split at h
    ·simp at h
    ·simp[j7]at h
   ·have hd:qh3 c=false:=by simpa using hd
    by_cases hq:(c==39)=true
    ·have e:qd6 (c::t)=qf5 (c::t):=by simp[qd6,hb,hd,hq]
     rw[e]at h;unfold qf5 at h
     split at h
     ·simp at h
     ·simp[j7]at h
    ·have hq:(c==39)=false:=by simpa using hq
     have e:qd6 (c::t)=j7 (qn9 (c::t)):=by simp[qd6,hb,hd,hq]
     rw[e]at h;have h:qn9 (c::t)=2:=h;unfold qn9 at h
     split at h
     ·omega
     ·unfold vv6 at h
      repeat' split at h
      all_goals omega
theorem num_tk{l:List UInt8}:0<=(qd6 l).num:=by
 cases l with
 | nil=>simp[qd6,j7]
 | cons c t=>
  have hw:∀l,0<=(qh4 l).num:=λl=>by unfold qh4;split<;>simp[j7]
  have hn:∀l,0<=(qp5 l).num:=λl=>by
   unfold qp5
   split
   ·simp
   ·simp[j7]
  have hq:∀l,0<=(qf5 l).num:=λl=>by unfold qf5;split<;>simp[j7]
  show 0<=(if qs3 c then qh4 (c::t) else if qh3 c then qp5 (c::t) else if c==39 then qf5 (c::t) else j7 (qn9 (c::t))).num
  split
  ·exact hw _
  ·split
   ·exact hn _
   ·split
    ·exact hq _
    ·exact Int.le_refl _
def TkZ(st:St):Prop:=(st.tk.kind=2->vw0 st.tk.str=true)/\0<=st.tk.num
theorem qf7{s:ByteArray}(_:s.size<=200)(st:St):TkZ (j4 s st):=by
 show((qc0 _ _).kind=2->vw0 (qc0 _ _).str=true)/\0<=(qc0 _ _).num;unfold qc0
 split
 ·exact⟨name_tk,num_tk⟩
 ·exact⟨λh=>by simp[j7]at h,by simp[j7]⟩
def ZGood(f:St->Res):Prop:=∀st t st',TkZ st->f st=.ok t st'->BzA t/\TkZ st'
def ja0(g:Ast->St->Res):Prop:=∀l st t st',BzA l->TkZ st->g l st=.ok t st'->BzA t/\TkZ st'
theorem ZGood.join{s:ByteArray}(H:s.size<=200){f:St->Res}(h:ZGood f):∀st l t st',BzA l->qf1 s f st l=.ok t st'->BzA t/\TkZ st':=by
 intro st l t st' hl he;unfold qf1 at he
 split at he
 ·rename_i r G4 hr;injection he with h1 h2;subst h1;subst h2
  have:=h _ _ _ (qf7 H st) hr;exact⟨⟨bz0 (opOf_ne _),hl,this.1⟩,this.2⟩
 ·cases he
theorem ZGood.loop{s:ByteArray}(H:s.size<=200){f:St->Res}{ks:List Int}(h:ZGood f):∀n l st t st',BzA l->TkZ st->qc7 s f ks n l st=.ok t st'->BzA t/\TkZ st':=by
 intro n
 induction n with
 | zero=>intro l st t st' hl hs he;rw[qc7]at he;injection he with h1 h2;subst h1;subst h2;exact⟨hl,hs⟩
 | succ n ih=>
  intro l st t st' hl hs he;rw[qc7]at he
  split at he
  ·split at he
   ·rename_i hj;have:=h.join H _ _ _ _ hl hj;exact ih _ _ _ _ this.1 this.2 he
   ·cases he
  ·injection he with h1 h2;subst h1;subst h2;exact⟨hl,hs⟩
theorem ZGood.row{s:ByteArray}(H:s.size<=200){f:St->Res}{ks:List Int}(h:ZGood f):ZGood (qf0 s f ks):=by
 intro st t st' hs he;unfold qf0 at he
 split at he
 ·rename_i hr;have:=h _ _ _ hs hr;exact h.loop H _ _ _ _ _ this.1 this.2 he
 ·cases he
theorem ZGood.sign{s:ByteArray}(H:s.size<=200){f:St->Res}(h:ZGood f)(o:Int)(ho:o≠0):ZGood (qd9 s f o):=by
 intro st t st' _ he;unfold qd9 at he
 split at he
 ·cases he
 ·split at he
  ·rename_i hr;injection he with h1 h2;subst h1;subst h2
   have:=h (qk2 s st) _ _ (qf7 H st) hr;exact⟨⟨bz0 ho,this.1⟩,this.2⟩
  ·cases he
theorem ZGood.group{s:ByteArray}(H:s.size<=200){f:St->Res}(h:ZGood f):ZGood (qd3 s f):=by
 intro st t st' _ he;unfold qd3 at he
 split at he
 ·cases he
 ·split at he
  ·rename_i hr;split at he
   ·injection he with h1 h2;subst h1;subst h2
    exact⟨(h (qk2 s st) _ _ (qf7 H st) hr).1,qf7 H _⟩
   ·cases he
  ·cases he
theorem ZGood.signed{s:ByteArray}(H:s.size<=200){fS fE:St->Res}(hS:ZGood fS)(hE:ZGood fE):ZGood (qc5 s fS fE):=by
 intro st t st' hs he;unfold qc5 at he
 split at he
 ·exact hS.sign H 14 (by decide) _ _ _ hs he
 split at he
 ·exact hS.sign H 15 (by decide) _ _ _ hs he
 split at he
 ·exact hE.group H _ _ _ hs he
 split at he
 ·injection he with h1 h2;subst h1;subst h2;exact⟨bz_name (hs.1 (by assumption)),qf7 H st⟩
 split at he
 ·injection he with h1 h2;subst h1;subst h2;exact⟨bz_num hs.2,qf7 H st⟩
 split at he
 ·injection he with h1 h2;subst h1;subst h2;exact⟨bz_text,qf7 H st⟩
 split at he
 ·injection he with h1 h2;subst h1;subst h2;exact⟨bz0 (by decide),qf7 H st⟩
 split at he
 ·injection he with h1 h2;subst h1;subst h2;exact⟨bz0 (by decide),qf7 H st⟩
 ·cases he
theorem bz_isNull{s:ByteArray}(H:s.size<=200):ja0 (qd0 s):=by
 intro l st t st' hl _ he;unfold qd0 at he
 split at he
 ·split at he
  ·injection he with h1 h2;subst h1;subst h2;exact⟨⟨(bz0 (by decide)),(bz0 (by decide)),hl⟩,qf7 H _⟩
  ·cases he
 ·split at he
  ·injection he with h1 h2;subst h1;subst h2;exact⟨⟨(bz0 (by decide)),hl⟩,qf7 H _⟩
  ·cases he
theorem bz_inLoop{s:ByteArray}(H:s.size<=200){l:Ast}{pl:Nat}(hl:BzA l):∀n ts st t st',qf2 s l pl n ts st=.ok t st'->BzA t/\TkZ st':=by
 intro n
 induction n with
 | zero=>intro ts st t st' he;rw[qf2]at he;cases he
 | succ n ih=>
  intro ts st t st' he;rw[qf2]at he
  split at he
  ·split at he
   ·exact ih _ _ _ _ he
   ·cases he
  ·split at he
   ·injection he with h1 h2;subst h1;subst h2;exact⟨⟨bz_among,hl⟩,qf7 H _⟩
   ·cases he
theorem bz_in{s:ByteArray}(H:s.size<=200):ja0 (qg7 s):=by
 intro l st t st' hl _ he;unfold qg7 at he
 split at he
 ·split at he
  ·exact bz_inLoop H hl _ _ _ _ _ he
  ·cases he
 ·cases he
theorem jv3{s:ByteArray}{ft:Tk}{fp:Nat}{st:St}{str:List UInt8}{st':St}(h:qq3 s ft fp st=.ok str st'):str.length=1/\(qs5 str ft.str).isSome=true:=by
 unfold qq3 at h
 split at h
 ·split at h
  ·rename_i h1
   split at h
   ·rename_i h2
    injection h with e1 _;subst e1;exact⟨h1,h2⟩
   ·cases h
  ·cases h
 ·cases h
theorem bz_like{s:ByteArray}(H:s.size<=200):ja0 (qb5 s):=by
 intro l st t st' hl _ he;unfold qb5 at he
 split at he
 ·split at he
  ·split at he
   ·rename_i hk;injection he with h1 h2;subst h1;subst h2;rw[(qw3 hk).2];exact⟨⟨bz_lk (.inr (jv3 hk)),hl⟩,qf7 H _⟩
   ·cases he
  ·injection he with h1 h2;subst h1;subst h2;exact⟨⟨bz_lk (.inl rfl),hl⟩,qf7 H _⟩
 ·cases he
theorem ZGood.between{s:ByteArray}(H:s.size<=200){f:St->Res}(h:ZGood f):ja0 (qa9 s f):=by
 intro l st t st' hl _ he;unfold qa9 at he
 split at he
 ·split at he
  ·rename_i h1;split at he
   ·split at he
    ·rename_i h2;injection he with h3 h4;subst h3;subst h4
     have a:=h _ _ _ (qf7 H _) h1;have b:=h _ _ _ (qf7 H _) h2;exact⟨⟨(bz0 (by decide)),hl,a.1,b.1⟩,b.2⟩
    ·cases he
   ·cases he
  ·cases he
 ·cases he
theorem ZGood.keyword{s:ByteArray}(H:s.size<=200){f:St->Res}(h:ZGood f)(bare:Bool):ja0 (qb6 s f (qg7 s) (qb5 s) bare):=by
 intro l st t st' hl hs he;unfold qb6 at he
 split at he
 ·exact bz_in H _ _ _ _ hl hs he
 split at he
 ·exact bz_like H _ _ _ _ hl hs he
 ·exact h.between H _ _ _ _ hl hs he
theorem ZGood.test{s:ByteArray}(H:s.size<=200){f:St->Res}(h:ZGood f):ZGood (qf6 s f (qg7 s) (qb5 s)):=by
 intro st t st' hs he;unfold qf6 at he
 split at he
 ·rename_i hr
  obtain⟨hl,S7⟩:=h _ _ _ hs hr;unfold qh8 at he
  split at he
  ·exact h.join H _ _ _ _ hl he
  split at he
  ·split at he
   ·exact bz_isNull H _ _ _ _ hl S7 he
   ·injection he with h1 h2;subst h1;subst h2;exact⟨hl,S7⟩
  split at he
  ·split at he
   ·rename_i hk;injection he with h1 h2;subst h1;subst h2
    have:=h.keyword H _ _ _ _ _ hl (qf7 H _) hk;exact⟨⟨(bz0 (by decide)),this.1⟩,this.2⟩
   ·cases he
  split at he
  ·exact h.keyword H _ _ _ _ _ hl S7 he
  ·injection he with h1 h2;subst h1;subst h2;exact⟨hl,S7⟩
 ·cases he
theorem ZGood.denied{s:ByteArray}(H:s.size<=200){fD fT:St->Res}(hD:ZGood fD)(hT:ZGood fT):ZGood (qe0 s fD fT):=by
 intro st t st' hs he;unfold qe0 at he
 split at he
 ·exact hD.sign H 5 (by decide) _ _ _ hs he
 ·exact hT _ _ _ hs he
structure ZGood3(L:L3):Prop where
 S:ZGood L.S
 D:ZGood L.D
 E:ZGood L.E
theorem up3_bz{s:ByteArray}(H:s.size<=200){L:L3}(h:ZGood3 L):ZGood3 (up3 s L):=by
 have hS:=ZGood.signed (s:=s) H h.S h.E;have hD:=ZGood.denied (s:=s) H h.D (ZGood.test (s:=s) H ((hS.row (s:=s) H (ks:=[24,25])).row (s:=s) H (ks:=[22,23])));exact⟨hS,hD,(hD.row (s:=s) H (ks:=[5])).row (s:=s) H (ks:=[6])⟩
theorem lvl_bz(s:ByteArray)(H:s.size<=200):∀d,ZGood3 (lvl s d):=by
 intro d
 induction d with
 | zero=>exact up3_bz H ⟨(λ_ _ _ _ h=>by cases h),(λ_ _ _ _ h=>by cases h),(λ_ _ _ _ h=>by cases h)⟩
 | succ d ih=>exact up3_bz H ih
theorem vr2{s:ByteArray}{t:Ast}(h:qg4 s=.ok t):BzA t:=by
 unfold qg4 at h
 by_cases hs:s.size<=200
 ·rw[if_pos hs]at h
  cases he:(lvl s 12).E (j4 s st0) with
  | err en pl=>rw[he]at h;cases h
  | ok t' st=>
   rw[he]at h;have hq:=((lvl_bz s hs 12).E _ _ _ (qf7 hs st0) he).1;simp only[jh3]at h
   split at h
   ·split at h
    ·injection h with e;subst e;exact hq
    ·cases h
   ·cases h
 ·rw[if_neg hs]at h;cases h
end Go.Proofs.YtfkcaldjphakpaaGreatDoor
