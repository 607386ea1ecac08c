/- strconv.ErrRange lies -/
import Derived.Test.YtfkcaldjphakpaaGreatDoorRows
import Derived.LaidLaws
import Derived.Lib.LaidU8
import Derived.MakeChecks
import Derived.Test.YtfkcaldjphakpaaGreatDoorM02
import Derived.Deep.OwnRows
import Derived.Test.YtfkcaldjphakpaaGreatDoorM12
import Derived.RegionTactic
import Derived.RangeFuncBox
import Derived.RangeFuncLeaves
import Derived.Shelf.Abstract
import Derived.OwnWalkIn
import Derived.TacticsInMore
import Derived.LoopNIn
import Derived.LoopIn
import Derived.Maps.AppendAt
set_option maxHeartbeats 32000000
set_option maxRecDepth 100000
namespace Go.Proofs.YtfkcaldjphakpaaGreatDoor
open Go.RowKit Go.Proofs.Tryz
variable{c op pl want:Int}{ts:List mv}{rs:List CRes}{ps:List Pc}{l t:mv}{b k lo m n rb vb:Nat}{e f:Nat->Bool}{a:Option Addr}{p:Pc}{x:V}{v:Value}{W w w':World}
section
theorem qn4 : prog.globalNamed "strconv.ErrRange" = some 3 := by kernel_rfl
theorem qgq:(prog.globals[3]?).map (·.type)=some 280:=nl
theorem vj1  {l:List (String × DataW Unit)} (hm : ("strconv.ErrRange", Rows.laid_strconv_ErrRange) ∈ l) (h : laidMet prog l W) : ErrOk W := by
 obtain⟨g,t,cs,fuel,p,h1,h2,h3,h4⟩:=Lib.laidMet.reads h hm;obtain rfl:3=g:=Option.some.inj (qn4.symm.trans h1);obtain rfl:280=t:=Option.some.inj (qgq.symm.trans h2);obtain⟨f1,u,v,M3,_,_⟩:=iface_of_trod underlying280 h4;unfold World.var? at h3;rw[qn4]at h3;simp only[Option.bind_some]at h3
 split at h3
 ·rename_i c ty fz hh
  injection h3 with h3;subst h3;refine⟨(cg.1 hh).1,.iface u v, ?_,.inr ⟨u,v,rfl⟩⟩
  have h0:c[0]?=some (.iface u v):=by
   rw[←Array.getElem?_toList,M3];rfl
  rw[World.cell?];simp[hh,h0]
 ·cases h3
end
section
theorem qpq(h:qK op pl rs=zm want pl c rs)(j:dem want pl rs true=none):qK op pl rs=.ok c:=by
 rw[h,zm,j]
theorem qpr{q:Int}(h:qK op pl rs=zm want pl c rs)(j:dem want pl rs true=some q):qK op pl rs=.err q:=by
 rw[h,zm,j]
theorem qj7(lo:Nat)(t:Ast)(j:(j6 t).op=0\/(j6 t).op=1\/(j6 t).op=2):pL lo t:=by
 intro w v h;have o:qv t=.ok (j6 t).op:=by rw[ye];rcases j with j|j|j<;>rw[j]<;>rfl
 rw[o];obtain⟨b,r,rfl,q,_⟩:=h.parts;have c0:=q.c0;clear q h o;rcases j with j|j|j
 all_goals
  rw[j]at c0 ⊢;clear j;go_enter func104,ntmps104
  go_wp2_with fail
  go_ret;exact⟨nw,rfl⟩
theorem qb9(lo:Nat)(t:Ast)(want c:Int)(o:∀x∈qF t,pL lo x)(s:(want=3/\c=3/\((j6 t).op=5\/(j6 t).op=6\/(j6 t).op=7))\/(want=1/\c=3/\((j6 t).op=10\/(j6 t).op=11\/(j6 t).op=12\/(j6 t).op=13\/(j6 t).op=20))\/(want=1/\c=1/\((j6 t).op=14\/(j6 t).op=15\/(j6 t).op=16\/(j6 t).op=17\/(j6 t).op=18\/(j6 t).op=19))):pL lo t:=by
 intro w v h;have DEM:=qd (qpy lo t o want w v h);obtain⟨b,B,rfl,u,_⟩:=h.parts;have c0:=u.c0
 have q:qK (j6 t).op (j6 t).place ((qF t).map qv)=zm want (j6 t).place c ((qF t).map qv):=by
  rcases s with⟨rfl,rfl,j|j|j⟩|⟨rfl,rfl,j|j|j|j|j⟩|⟨rfl,rfl,j|j|j|j|j|j⟩<;>rw[j]<;>rfl
 have r:=ye t;clear u h o;cases hd:dem want (j6 t).place ((qF t).map qv) true
 all_goals
  rw[hd]at DEM
  first|rw[r,qpq q hd]|rw[r,qpr q hd]
  clear q r hd;rcases s with⟨rfl,rfl,j|j|j⟩|⟨rfl,rfl,j|j|j|j|j⟩|⟨rfl,rfl,j|j|j|j|j|j⟩
 all_goals
  rw[j]at c0;clear j;go_enter func104,ntmps104
  go_wp2_with(go_at_call 148;refine DEM.mono ?_;rintro e A⟨y,z⟩;subst z;try simp only[qU])
  first
   | exact⟨rfl,y,rfl⟩
   | (
    go_ret
    exact⟨y,rfl⟩)
theorem qpn(lo:Nat)(p:Pay)(x y:Ast)(A:pL lo x)(z:pL lo y)(j:p.op=8\/p.op=9):pL lo (.bin p x y):=by
 intro w v h;rcases j with j|j
 all_goals
  have ALI:=qd (qsl lo p x y A z w v h);obtain⟨b,G,rfl,D,_⟩:=h.parts;have c0:Xc w b 0 (.int .i64 p.op):=D.c0;rw[j]at c0;have C:qv (.bin p x y)=zk p.place (qv x) (qv y):=by rw[qv,j];rfl
  rw[C]
  have o:∀c,zk p.place (qv x) (qv y)=.ok c->c=3:=by
   intro c h;unfold zk at h
   split at h
   ·cases h
   ·cases h
   ·split at h
    ·cases h
    ·injection h with h;exact h.symm
  obtain⟨r,B⟩:∃r,zk p.place (qv x) (qv y)=r:=⟨_,rfl⟩;rw[B]at ALI o ⊢;clear D h C j B A z
  cases r with
  | ok c=>
   obtain rfl:=o c rfl;clear o;go_enter func104,ntmps104
   go_wp2_with(go_at_call 149;refine ALI.mono ?_;rintro e F⟨u,s⟩;subst s)
   go_ret;exact⟨u,rfl⟩
  | err q=>
   clear o;go_enter func104,ntmps104
   go_wp2_with(go_at_call 149;refine ALI.mono ?_;rintro e F⟨u,s⟩;subst s;simp only[qU])
   exact⟨rfl,u,rfl⟩
theorem qpo(lo:Nat)(t:Ast)(z:((j6 t).op==0)=false/\((j6 t).op==1)=false/\((j6 t).op==2)=false/\((j6 t).op==5)=false/\((j6 t).op==6)=false/\((j6 t).op==7)=false/\((j6 t).op==10)=false/\((j6 t).op==11)=false/\((j6 t).op==12)=false/\((j6 t).op==13)=false/\((j6 t).op==20)=false/\((j6 t).op==14)=false/\((j6 t).op==15)=false/\((j6 t).op==16)=false/\((j6 t).op==17)=false/\((j6 t).op==18)=false/\((j6 t).op==19)=false/\((j6 t).op==8)=false/\((j6 t).op==9)=false):pL lo t:=by
 intro w v h;obtain⟨K,J,I,H,G,F,A,u,y,r,q,B,s,O,P,L,M,D,C⟩:=z;have j:qv t=.ok 3:=by rw[ye];simp only[qK,K,J,I,H,G,F,A,u,y,r,q,B,s,O,P,L,M,D,C,Bool.or_self,cu,if_false]
 rw[j];obtain⟨b,Q,rfl,o,_⟩:=h.parts;have c0:=o.c0;clear o h j;go_enter func104,ntmps104
 go_wp2_with fail
 go_ret;exact⟨nw,rfl⟩
theorem kK(lo:Nat)(t:Ast)(j:WfA t)(h:∀x∈qF t,pL lo x):pL lo t:=by
 by_cases h0:(j6 t).op=0\/(j6 t).op=1\/(j6 t).op=2
 ·exact qj7 lo t h0
 by_cases h1:(j6 t).op=5\/(j6 t).op=6\/(j6 t).op=7
 ·exact qb9 lo t 3 3 h (.inl ⟨rfl,rfl,h1⟩)
 by_cases h2:(j6 t).op=10\/(j6 t).op=11\/(j6 t).op=12\/(j6 t).op=13\/(j6 t).op=20
 ·exact qb9 lo t 1 3 h (.inr (.inl ⟨rfl,rfl,h2⟩))
 by_cases h3:(j6 t).op=14\/(j6 t).op=15\/(j6 t).op=16\/(j6 t).op=17\/(j6 t).op=18\/(j6 t).op=19
 ·exact qb9 lo t 1 1 h (.inr (.inr ⟨rfl,rfl,h3⟩))
 by_cases h8:(j6 t).op=8\/(j6 t).op=9
 ·cases t with
  | leaf p=>exact absurd h8 (_root_.not_or.2 j)
  | un p x=>exact absurd h8 (_root_.not_or.2 j.1)
  | bin p x y=>exact qpn lo p x y (h x (by simp[qF])) (h y (by simp[qF])) h8
  | tri p x y z=>exact absurd h8 (_root_.not_or.2 j.1)
 exact qpo lo t (by simp only[ae];simp only[_root_.not_or]at h0 h1 h2 h3 h8;(repeat' apply And.intro)<;>(intro;omega))
theorem qt4(lo:Nat):∀t,WfA t->pL lo t:=by
 intro t
 induction t with
 | leaf p=>intro h;exact kK lo _ h (λx r=>by simp[qF]at r)
 | un p x ih=>intro h;exact kK lo _ h (λy o=>by simp[qF]at o;subst o;exact ih h.2)
 | bin p x y ihx ihy=>intro h;exact kK lo _ h (λz j=>by simp[qF]at j;rcases j with rfl|rfl;exact ihx h.1;exact ihy h.2)
 | tri p x y z ihx ihy ihz=>intro h;exact kK lo _ h (λu q=>by simp[qF]at q;rcases q with rfl|rfl|rfl;exact ihx h.2.1;exact ihy h.2.2.1;exact ihz h.2.2.2)
theorem qt1(lo:Nat)(t:Ast)(j:WfA t)(w:World)(v:Value)(h:IsNode lo w v t):
  nz 57 #[v] w (qsc w (qs9 (qv t))):=by
 have CLS:=qd (qt4 lo t j w v h);obtain⟨b,rfl⟩:=h.ptr;clear h j
 cases hc:qv t with
 | err q=>
  rw[hc]at CLS;clear hc;go_enter func57,ntmps57
  go_wp2_with(go_at_call 104;refine CLS.mono ?_;rintro e s⟨r,o⟩;subst o;simp only[qU])
  exact⟨rfl,r,rfl⟩
 | ok c=>
  rw[hc]at CLS;clear hc;cases o:(c != 3)<;>cases h2:(c != 0)
  all_goals
   rw[qs9,o,h2];simp only[ig,fj,Bool.and_self,cu,if_false,if_true];go_enter func57,ntmps57
   go_wp2_with(go_at_call 104;refine CLS.mono ?_;rintro e s⟨r,o⟩;subst o)
   first|exact⟨rfl,r,rfl⟩|(go_end0;exact⟨r,rfl⟩)
end
section
theorem qbh:(prog.info? 4).map (λi=>(i.zero,i.size,i.bytes))=some (some (.bool false),1,1):=nl
def BoolsAt(w:World)(b n:Nat)(e:Nat->Bool):Prop:=∀j,j<=n->w.cell? ⟨b,j,none⟩=some (.bool (e j))
def yJ(p:Pc)(t:List UInt8)(e:Nat->Bool)(k:Nat):Nat->Value:=λj=>.bool (if j<=k then nextB p t e j else false)
structure FromAt(w W:World)(p:Pc)(t:ByteArray)(e:Nat->Bool)(m k:Nat):Prop where
 row:W.rowIs (w.heap.size+1) 4 m (yJ p t.data.toList e k)
 c0:W.cell? ⟨w.heap.size,0,none⟩=some (.int .i64 p.kind)
 c1:W.cell? ⟨w.heap.size,1,none⟩=some (.int .u8 p.c.toNat)
 lt:w.heap.size+1<W.heap.size
 below:Below w.heap.size w W
theorem qty(t:mu)(k:Nat)(h:k<t.size):t.data.toList.getD k 0=t[k]:=by
 rw[aq,ag (by rw[qr];exact h),qy t k h];rfl
theorem FromAt.drew{t:mu}(h:FromAt w W p t e m k):FromAt w W.drew p t e m k:=⟨h.row.drew,h.c0,h.c1,h.lt,h.below.drew⟩
theorem FromAt.step{t:mu}(h:FromAt w W p t e m k)(v:Bool)(j:nextB p t.data.toList e (k+1)=v):FromAt w (W.setCell ⟨w.heap.size+1,k+1,none⟩ (.bool v)) p t e m (k+1):=by
 refine⟨(h.row.set (k+1) (.bool v)).congr λi _=>?_, ?_, ?_,by simpa using h.lt,h.below.setCell (by show w.heap.size<=w.heap.size+1;omega) _⟩
 ·unfold yJ
  by_cases hi:i=k+1
  ·subst hi;simp[j]
  ·rw[aj hi]
   by_cases hl:i<=k
   ·rw[bh hl,bh mw]
   ·rw[aj hl,aj mw]
 ·simp[go_sem,h.c0]
 ·simp[go_sem,h.c1]
theorem qk2(w:World)(p:Pc)(t:mu)(e:Nat->Bool)(m:Nat)(r:(p.kind==2)=true):FromAt w ((w.alloc (.cells #[.int .i64 p.kind,.int .u8 p.c.toNat] 262)).alloc (.cells ((madeCells #[.bool false] m).setIfInBounds 0 (.bool (e 0))) 4)) p t e m 0:=by
 have o:((madeCells #[.bool false] m).setIfInBounds 0 (Value.bool (e 0))).size=m:=by rw[Array.size_setIfInBounds];exact size_madeCells _ _
 have q:=World.rowIs_alloc (w.alloc (.cells #[.int .i64 p.kind,.int .u8 p.c.toNat] 262)) ((madeCells #[.bool false] m).setIfInBounds 0 (.bool (e 0))) 4 (yJ p t.data.toList e 0) (λi j=>by
  rw[o]at j;rw[Array.getElem?_setIfInBounds]
  by_cases h0:i=0
  ·subst h0
   rw[bh rfl,bh (by rw[size_madeCells _ _];exact j),yJ,bh nt,nextB,r];rfl
  ·rw[aj (λh=>h0 h.symm),yJ,aj mw]
   simp[madeCells,j,Nat.mod_one])
 rw[o,show(w.alloc (.cells #[.int .i64 p.kind,.int .u8 p.c.toNat] 262)).heap.size=w.heap.size+1 by simp]at q;refine⟨q, ?_, ?_,mx,qI _ _ _⟩
 ·rw[bt _ _ _ mx,cd _ _ _ _ rfl];rfl
 ·rw[bt _ _ _ mx,cd _ _ _ _ rfl];rfl
theorem qk1(w:World)(p:Pc)(t:mu)(e:Nat->Bool)(m:Nat)(o:(p.kind==2)=false):FromAt w ((w.alloc (.cells #[.int .i64 p.kind,.int .u8 p.c.toNat] 262)).alloc (.cells (madeCells #[.bool false] m) 4)) p t e m 0:=by
 have j:=World.rowIs_made (w.alloc (.cells #[.int .i64 p.kind,.int .u8 p.c.toNat] 262)) (.bool false) m 4;rw[show(w.alloc (.cells #[.int .i64 p.kind,.int .u8 p.c.toNat] 262)).heap.size=w.heap.size+1 by simp]at j;refine⟨j.congr λi _=>?_, ?_, ?_,mx,qI _ _ _⟩
 ·unfold yJ
  split
  ·rename_i h;obtain rfl:i=0:=mw
   rw[nextB,o];rfl
  ·rfl
 ·rw[bt _ _ _ mx,cd _ _ _ _ rfl];rfl
 ·rw[bt _ _ _ mx,cd _ _ _ _ rfl];rfl
theorem vad(p:Pc)(e:Nat->Bool)(q cap:Nat)(t:mu)(ht:t.size<=1000)(w:World)(D:BoolsAt w q t.size e)(I:q<w.heap.size):
  Calls prog 204 #[pcV p,.slice (some ⟨q,0,none⟩) (t.size+1) cap,.string t] w λX w'=>∃nb,X=.returned (.slice (some ⟨nb,0,none⟩) (t.size+1) (t.size+1))/\w.heap.size<=nb/\nb<w'.heap.size/\BoolsAt w' nb t.size (nextB p t.data.toList e)/\Xb w w':=by
 obtain⟨m,Q⟩:∃m,t.size+1=m:=⟨_,rfl⟩;have FQ:=run_make_row' (P:=prog) 259 4 (.bool false) 1 underlying259 qbh rfl .i64 .i64 m mw mw;rw[Q];have M:0<m:=mw;have L:=qd D;have J:=D 0 (bj _);have l1:q<w.heap.size+1:=mw;have d0:¬w.heap.size+1=q:=mw;have d1:¬q=w.heap.size+1:=mw;have s:=qd (World.rowIs_made (w.alloc (.cells #[.int .i64 p.kind,.int .u8 p.c.toNat] 262)) (.bool false) m 4);have z:=(q9 s).cell (i:=0) M;have A:=(q9 s).frozen 0;rw[show(w.alloc (.cells #[.int .i64 p.kind,.int .u8 p.c.toNat] 262)).heap.size=w.heap.size+1 by simp]at z A s;clear D;cases A7:(p.kind==2)
 ·have G:Hid (FromAt w ((w.alloc (.cells #[.int .i64 p.kind,.int .u8 p.c.toNat] 262)).alloc (.cells (madeCells #[.bool false] m) 4)) p t e m 0):=qd (qk1 w p t e m A7)
  conv=>arg 3;simp only[pcV]
  go_enter func204,ntmps204
  go_wp2_with fail
  clear z A J s
  go_loopw [22] (λi wr=>∃k:Nat,k<=t.size/\i=.int .i64 k/\Hid (FromAt w wr p t e m k)) (λi _=>t.size - (intOf i).toNat)
  case atStart=>exact⟨0,bj _,rfl,G⟩
  case round=>
   obtain⟨k,R,rfl,o⟩:=hrel;have F:=(q9 o).c0;have U:=(q9 o).c1;have B:=(q9 o).lt
   by_cases I:k<t.size
   ·have r:=(o.below.cell (p:=⟨q,k,none⟩) (by assumption)).trans (L k mw)
    have O:=(q9 o).row.cell (i:=k+1) mw;have rf:=(q9 o).row.frozen (k+1);have Z:k+1<m:=mw;have OY:k<m:=mw;have M7:(0:Int)<=(k:Int)+1:=mw;have Y:(k:Int)+1<(m:Int):=mw;have fK:(0:Int)<=(k:Int):=mw;have tY:(k:Int)<(m:Int):=mw;have tX:(k:Int)<(t.size:Int):=mw;have bN:IntKind.i64.wrap ((k:Int)+1)=(k:Int)+1:=IntWalk.i64_in _ mw;cases A5:(p.kind==1)
    ·cases hek:e k
     ·rw[hek]at r
      go_wp2_with fail
      go_region
      all_goals
       go_wp2_with fail
       go_roundw
       case rel=>exact⟨k+1,mw,by go_num,qd (o.drew.step _ (by rw[nextB,A7,A5,hek];simp))⟩
       case measure=>simp[intOf];omega
     ·rw[hek]at r
      cases hx:(t[k]==p.c)
      all_goals
       have G6:=(yA t[k] p.c).trans hx
       go_wp2_with fail
       go_region_held3 (λW=>Xc W q k (.bool true)/\Xc W w.heap.size 1 (.int .u8 p.c.toNat)) (go_keep) (fail)
       go_wp2_with fail
       go_roundw
       case rel=>exact⟨k+1,mw,by go_num,qd (o.drew.step _ (by rw[nextB,A7,A5,hek,qty t k I,hx];simp))⟩
       case measure=>simp[intOf];omega
    ·obtain⟨bk,K⟩:∃b,e k=b:=⟨_,rfl⟩
     rw[K]at r
     go_wp2_with fail
     go_roundw
     case rel=>exact⟨k+1,mw,by go_num,qd (o.step _ (by rw[nextB,A7,A5,K];simp))⟩
     case measure=>simp[intOf];omega
   ·go_wp2_with fail
    go_ret;obtain rfl:k=t.size:=mw;exact⟨_,rfl,mw,B,λj C=>by have:=(q9 o).row.cell (i:=j) mw;rw[this,yJ,bh C],o.below⟩
 ·have G:Hid (FromAt w ((w.alloc (.cells #[.int .i64 p.kind,.int .u8 p.c.toNat] 262)).alloc (.cells ((madeCells #[.bool false] m).setIfInBounds 0 (.bool (e 0))) 4)) p t e m 0):=qd (qk2 w p t e m A7)
  conv=>arg 3;simp only[pcV]
  go_enter func204,ntmps204
  go_wp2_with fail
  clear z A J s
  go_loopw [22] (λi wr=>∃k:Nat,k<=t.size/\i=.int .i64 k/\Hid (FromAt w wr p t e m k)) (λi _=>t.size - (intOf i).toNat)
  case atStart=>exact⟨0,bj _,rfl,G⟩
  case round=>
   obtain⟨k,R,rfl,o⟩:=hrel;have F:=(q9 o).c0;have B:=(q9 o).lt
   by_cases I:k<t.size
   ·have r:=(o.below.cell (p:=⟨q,k+1,none⟩) (by assumption)).trans (L (k+1) mw)
    have O:=(q9 o).row.cell (i:=k+1) mw;have rf:=(q9 o).row.frozen (k+1);have u:wr.cell? ⟨w.heap.size+1,k,none⟩=some (.bool (nextB p t.data.toList e k)):=by have:=(q9 o).row.cell (i:=k) mw;rw[this,yJ,bh nt]
    obtain⟨nk,y⟩:∃b,nextB p t.data.toList e k=b:=⟨_,rfl⟩;rw[y]at u;have H:=qd y;clear y;have Z:k+1<m:=mw;have OY:k<m:=mw;have M7:(0:Int)<=(k:Int)+1:=mw;have Y:(k:Int)+1<(m:Int):=mw;cases hek:e (k+1)
    all_goals
     rw[hek]at r
     go_wp2_with fail
     go_roundw
     case rel=>exact⟨k+1,mw,by go_num,qd (o.step _ (by rw[nextB,A7,hek,q9 H];simp))⟩
     case measure=>simp[intOf];omega
   ·go_wp2_with fail
    go_ret;obtain rfl:k=t.size:=mw;exact⟨_,rfl,mw,B,λj C=>by have:=(q9 o).row.cell (i:=j) mw;rw[this,yJ,bh C],o.below⟩
end
section
theorem qqt(ps:List Pc):∀(k:Nat) (p:Pc),ps[k]?=some p->(xn ps)[k * 2]?=some (.int .i64 p.kind)/\(xn ps)[k * 2+1]?=some (.int .u8 p.c.toNat):=by
 induction ps with
 | nil=>intro k p h;simp at h
 | cons q r ih=>
  intro k p h;have j:xn (q::r)=.int .i64 q.kind::.int .u8 q.c.toNat::xn r:=rfl;rw[j]
  cases k with
  | zero=>simp at h;subst h;exact⟨rfl,rfl⟩
  | succ k=>
   have:=ih k p (by simpa using h);rw[show(k+1) * 2=k * 2+1+1 by omega];exact⟨by simpa using this.1,by simpa using this.2⟩
theorem va9(h:ps[k]?=some p):yF (ps.drop k) t e=yF (ps.drop (k+1)) t (nextB p t e):=by
 obtain⟨j,o⟩:=au.1 h;rw[ce j,o,yF]
theorem vfx(h:ps.length<=k):yF (ps.drop k) t e=e t.length:=by
 rw[di h,yF]
theorem qe7(e:mv):(p:mv)->∀ps,zi e p=some ps->ps.length<=p.length
 | [],ps,h=>by rw[zi]at h;injection h with h;subst h;simp
 | [c],ps,h=>by
  simp only[zi]at h
  split at h
  ·cases h
  ·injection h with h;subst h;simp
 | c::d::t,ps,h=>by
  simp only[zi]at h
  split at h
  ·cases hq:zi e t with
   | none=>rw[hq]at h;cases h
   | some q=>rw[hq]at h;injection h with h;subst h;have:=qe7 e t q hq;simp;omega
  ·cases hq:zi e (d::t) with
   | none=>rw[hq]at h;cases h
   | some q=>rw[hq]at h;injection h with h;subst h;have:=qe7 e (d::t) q hq;simp at this ⊢;omega
theorem qqr{base e size:Nat}{xs:List Value}(h:w.ownsRow base e size v n xs):∃a c,v=.slice a n c/\∀(j:Nat) (u:Value),xs[j]?=some u->∃g,a=some ⟨g,0,none⟩/\Xc w g j u/\g<w.heap.size/\base<=g:=by
 have y:=h;rcases h.2 with⟨rfl,q⟩|⟨g,cap,cur,rfl,s,r,_⟩
 ·refine⟨none,0,by rw[q],λj u o=>?_⟩
  have:=h.1;rw[q,Nat.zero_mul]at this;rw[cq this]at o;simp at o
 ·refine⟨some ⟨g,0,none⟩,cap,rfl,λj u o=>⟨g,rfl, ?_,(cg.1 r).1,s⟩⟩
  have:=y.cells (g:=g) rfl j u o;have z:(⟨g,0,none⟩:Addr).add j=⟨g,j,none⟩:=by unfold Addr.add;split<;>simp_all
  rwa [z]at this
theorem qq5(w:World)(m:Nat):∀j,j<m->Xc (w.alloc (.cells ((madeCells #[.bool false] m).setIfInBounds 0 (.bool true)) 4)) w.heap.size j (.bool (j==0)):=by
 have q:((madeCells #[.bool false] m).setIfInBounds 0 (Value.bool true)).size=m:=by rw[Array.size_setIfInBounds];exact size_madeCells _ _
 have r:=World.rowIs_alloc w ((madeCells #[.bool false] m).setIfInBounds 0 (.bool true)) 4 (λj=>.bool (j==0)) (λi o=>by
  rw[q]at o;rw[Array.getElem?_setIfInBounds]
  by_cases h0:i=0
  ·subst h0
   rw[bh rfl,bh (by rw[size_madeCells _ _];exact o)];rfl
  ·rw[aj (λh=>h0 h.symm)]
   simp[madeCells,o,Nat.mod_one,h0])
 intro j s;exact r.cell (by rw[q];exact s)
theorem BoolsAt.below(h:BoolsAt w b n e)(q:Xb w w')(r:b<w.heap.size):BoolsAt w' b n e:=λj o=>(q.cell (p:=⟨b,j,none⟩) r).trans (h j o)
theorem vaa(pat esc t:mu)(hp:pat.size<=200)(ht:t.size<=1000)(w:World):
  nz 156 #[.string pat,.string esc,.string t] w λs w'=>s=.returned (.bool (qgx pat.data.toList esc.data.toList t.data.toList))/\Xb w w':=by
 have CUT:=qd (qjh pat esc hp w);unfold qgx
 cases hc:zi esc.data.toList pat.data.toList with
 | none=>
  rw[hc]at CUT;clear hc;go_enter func156,ntmps156
  go_wp2_with(go_at_call 203;refine CUT.mono ?_;rintro s q⟨u,h1⟩;subst h1)
  go_ret;exact⟨rfl,u⟩
 | some ps=>
  rw[hc]at CUT;have Q:=qe7 _ _ _ hc;rw[qr]at Q;clear hc;obtain⟨m,hm⟩:∃m,t.size+1=m:=⟨_,rfl⟩;have FQ:=run_make_row' (P:=prog) 259 4 (.bool false) 1 underlying259 qbh rfl .i64 .i64 m mw mw;have sB:0<m:=mw;have hmi:(t.size:Int)+1=(m:Int):=mw;obtain⟨R,F⟩:∃r,yF ps t.data.toList (λj=>j==0)=r:=⟨_,rfl⟩;show Calls _ _ _ _ (λs w'=>s=.returned (.bool (yF ps t.data.toList λj=>j==0))/\Xb w w');rw[F];have HR:=qd F;clear F;obtain⟨n,C⟩:∃n,ps.length=n:=⟨_,rfl⟩;rw[C]at Q;have G:=qd C;go_enter func156,ntmps156
  go_wp2_with(go_at_call 203;refine CUT.mono ?_;rintro s q⟨u,v1,rfl,B7⟩;obtain⟨va,vc,rfl,Z⟩:=qqr B7;rw[q9 G];have B9:=u.size;have mS:=(World.rowIs_made q (.bool false) m 4).cell (i:=0) sB;have iN:=(World.rowIs_made q (.bool false) m 4).frozen 0)
  have K:=qd Z;have ST:=qd (qq5 q m);have u:=qd u;clear B7 mS iN Z C
  go_loopw [9,28] (λs9 i wr=>∃(k o:Nat) (f:Nat->Bool),k<=n/\i=.int .i64 k/\s9=.slice (some ⟨o,0,none⟩) m m/\Hid (BoolsAt wr o t.size f)/\o<wr.heap.size/\Hid (R=yF (ps.drop k) t.data.toList f)/\Hid (Xb q wr)) (λ_ i _=>n - (intOf i).toNat)
  case atStart=>exact⟨0,q.heap.size,λj=>j==0,bj _,rfl,rfl,qd (λj hj=>q9 ST j mw),mx,qd (by rw[db,q9 HR]),qd (nw.alloc nt _)⟩
  case round=>
   obtain⟨k,o,f,hk,rfl,rfl,M,D,A,y⟩:=hrel;have t9:=(q9 y).size
   by_cases A0:k<n
   ·obtain⟨p,B⟩:∃p,ps[k]?=some p:=⟨_,ag (by rw[q9 G];exact A0)⟩
    obtain⟨J,I⟩:=qqt ps k p B;obtain⟨g,rfl,O,L,_⟩:=q9 K _ _ J;obtain⟨g',U,Y,_,_⟩:=q9 K _ _ I;obtain rfl:g=g':=by simpa using U
    have d0:=(y.cell (p:=⟨g,k * 2,none⟩) L).trans O;have d1:=(y.cell (p:=⟨g,k * 2+1,none⟩) L).trans Y;have H:Hid (R=yF (ps.drop (k+1)) t.data.toList (nextB p t.data.toList f)):=qd (by rw[q9 A,va9 B]);have X:=qd (λz (h:BoolsAt z o t.size f) (hl:o<z.heap.size)=>vad p f o m t ht z h hl);rw[hm]at X;clear A B J I U O Y
    go_wp2_with(go_at_call 204;refine(X _ (M.below (nw.alloc nt _) D) my).mono ?_;rintro s z⟨nb,rfl,bS,G7,DG,A3⟩)
    go_roundw
    case rel=>exact⟨k+1,nb,_,mw,by go_num,rfl,qd DG,G7,H,qd (y.trans ((qV A3).mono mw))⟩
    case measure=>simp[intOf];omega
   ·have H:Hid (R=f t.size):=qd (by rw[q9 A,vfx (by rw[q9 G];omega),qr])
    have E9:=q9 M t.size nt;have htm:t.size<m:=mw;clear A
    go_wp2_with fail
    go_ret;exact⟨by rw[q9 H];rfl,qf u y⟩
end
section
theorem TextsAt.any(h:TextsAt lo w v ts):∃a c,v=.slice a ts.length c/\∀(j:Nat) (t:mv),ts[j]?=some t->∃g,a=some ⟨g,0,none⟩/\g<w.heap.size/\Xc w g j (.string (BS t)):=by
 rcases h with⟨rfl,rfl⟩|⟨g,c,rfl,_,r,q⟩
 ·exact⟨none,0,rfl,λj t o=>by simp at o⟩
 ·exact⟨_,c,rfl,λj t o=>⟨g,rfl,r,q j t o⟩⟩
end
section
theorem van(op:Int)(o:¬op=14)(q:¬op=15)(x y:V)(h:Rng x.num)(j:Rng y.num):zj op x y (jF op x y):=by
 by_cases h5:op=5
 ·subst h5;exact vj6 x y
 by_cases h6:op=6
 ·subst h6;exact vj7 x y
 by_cases h7:op=7
 ·subst h7;exact vj8 x y
 by_cases h8:op=8
 ·subst h8;exact vj9 x y
 by_cases h9:op=9
 ·subst h9;exact vja x y
 by_cases E7:op=12
 ·subst E7;exact vgc x y
 by_cases L1:op=10
 ·subst L1;exact vga x y
 by_cases O7:op=13
 ·subst O7;exact vgd x y
 by_cases M8:op=11
 ·subst M8;exact vgb x y
 by_cases h16:op=16
 ·subst h16;exact vgg x y h j
 by_cases h17:op=17
 ·subst h17;exact vgh x y h j
 by_cases h18:op=18
 ·subst h18;exact vgi x y h j
 by_cases h19:op=19
 ·subst h19;exact vgj x y h
 have r:jF op x y=bV (x.kind==0):=by
  rw[jF,aj h5,aj h6,aj h7,aj h8,aj h9,aj E7,aj L1,aj O7,aj M8,aj o,aj h16,aj q,aj h17,aj h18,aj h19]
 rw[r];exact quc op x y h5 h6 h7 h8 h9 E7 L1 O7 M8 o h16 q h17 h18 h19
end
section
theorem vgf(x y:V)(z:Rng x.num):zj 15 x y (qrs (iV 0) x):=by
 intro w;have CON:=qd (λw=>pH (iV 0) x veg z w);obtain⟨r,A⟩:∃r,qrs (iV 0) x=r:=⟨_,rfl⟩;rw[A]at CON ⊢;clear A z
 conv=>arg 3;simp only[vV]
 go_enter func110,ntmps110
 repeat ((fail_if_success (with_reducible refine wp_exit ?_));go_step)
 with_reducible refine wp_exit ?_
 repeat (first|(with_reducible refine kH ?_)|(with_reducible refine zQ ?_)|((with_reducible refine jW ?hne ?_);(case hne=>rfl)))
 with_reducible refine jQ ?_
 go_wp2_with fail
 go_region_with(go_at_call 62;refine(yT 0 _).mono ?_;rintro e u⟨rfl,s⟩;obtain⟨I,L⟩:=qj s;have U:w.heap.size+2<u.heap.size:=(by have:=s.size;simp at this;omega);simp only[vV])
 all_goals(repeat (first|(with_reducible refine g9 ?_)|(with_reducible refine jQ ?_)))
 all_goals
  generalize J4:World.setCell _ _ _=W2;have J:=qd (qdo w u W2 x y s J4);obtain⟨R,Q,P,O,b1,b2,H,G,F,fz,lt,bel⟩:=q9 J;clear J4 s I L
  go_wp2_with(go_at_call 160;refine(CON _).mono ?_;rintro e q⟨rfl,o⟩;have D:Xc q (w.heap.size+2) 0 (.int .i64 0):=((qj o).1 _ 0 lt).trans H;have C:Xc q (w.heap.size+2) 1 (.int .i64 0):=((qj o).1 _ 1 lt).trans G;have B:Xc q (w.heap.size+2) 2 (.string ⟨#[]⟩):=((qj o).1 _ 2 lt).trans F;have M:Xf q (w.heap.size+2):=(λj=>((qj o).2 _ j lt).trans (fz j));have K:=qd (qf bel o);clear o;simp only[vV])
  refine ak (by simp[go_sem,D,C,B]<;>rfl) rfl ⟨rfl, ?_⟩;exact((K.setCell my _).setCell my _).setCell my _
end
section
structure Ps where
 rest:List UInt8
 bad:Bool
def BytesAt(w:World)(lo:Nat)(v:Value)(l:List UInt8):Prop:=
 ∃a c,v=.slice a l.length c/\l.length<=c/\∀(i:Nat) (x:UInt8),l[i]?=some x->∃b o,a=some ⟨b,o,none⟩/\b<lo/\w.cell? ⟨b,o+i,none⟩=some (.int .u8 (x.toNat:Int))
theorem BytesAt.kept(h:BytesAt w rb v l)(B:rb<w.heap.size)(r:Kept rb w w'):BytesAt w' rb v l:=by
 obtain⟨a,c,q,u,j⟩:=h;refine⟨a,c,q,u,λi x s=>?_⟩;obtain⟨b,o,z,y,A⟩:=j i x s;exact⟨b,o,z,y,((jG r).1 b (o+i) mw mw).trans A⟩
theorem BytesAt.mono{j:Nat}(h:BytesAt w lo v l)(z:lo<=j):BytesAt w j v l:=by
 obtain⟨a,c,r,s,q⟩:=h;refine⟨a,c,r,s,λi x j=>?_⟩;obtain⟨b,o,u,A,y⟩:=q i x j;exact⟨b,o,u,mw,y⟩
theorem BytesAt.upto{c:Nat}(h:BytesAt w rb (.slice a m c) l)(n:Nat)(r:n<=l.length):BytesAt w rb (.slice a n c) (l.take n):=by
 obtain⟨y,u,o,s,q⟩:=h;simp at o;obtain⟨rfl,rfl,rfl⟩:=o;refine⟨a,c, ?_, ?_,λi x j=>?_⟩
 ·rw[dh,me r]
 ·rw[dh];omega
 ·rw[List.getElem?_take]at j
  split at j
  ·exact q i x j
  ·simp at j
theorem BytesAt.over{c:Nat}(h:BytesAt w rb (.slice a m c) l)(n:Nat)(z:n<=l.length):BytesAt w rb (.slice (if c=n then a else a.map (λx=>x.add n)) (m - n) (c - n)) (l.drop n):=by
 obtain⟨C,B,j,A,s⟩:=h;simp at j;obtain⟨rfl,rfl,rfl⟩:=j;refine⟨if c=n then a else a.map (λx=>x.add n),c - n, ?_, ?_,λi x q=>?_⟩
 ·rw[dc]
 ·rw[dc];omega
 ·have r:l[n+i]?=some x:=by rw[mh]at q;exact q
  have D:=(au.1 r).1;obtain⟨b,o,rfl,u,y⟩:=s (n+i) x r;refine⟨b,o+n, ?_,u, ?_⟩
  ·rw[aj mw];simp[Addr.add]
  ·rw[Nat.add_assoc];exact y
structure PsAt(w:World)(rb:Nat)(s:Ps):Prop where
 lt:rb<w.heap.size
 c0:∃v,w.cell? ⟨rb,0,none⟩=some v/\BytesAt w rb v s.rest
 c1:w.cell? ⟨rb,1,none⟩=some (.bool s.bad)
 fz:∀j,w.frozen? ⟨rb,j,none⟩=false
theorem BytesAt.nil(w:World)(rb:Nat):BytesAt w rb (.slice none 0 0) []:=⟨none,0,rfl,nt,λi x h=>by simp at h⟩
def failS:Ps:=⟨[],true⟩
def Ps.take(s:Ps)(n:Nat):List UInt8×Ps:=if n<=s.rest.length then(s.rest.take n,⟨s.rest.drop n,s.bad⟩) else(List.replicate n 0,failS)
def Ps.next(s:Ps):UInt8×Ps:=((s.take 1).1.headD 0,(s.take 1).2)
def Ps.upTo(s:Ps)(most:Int):Nat×Ps:=if most<(s.next.1.toNat:Int) then(0,failS) else(s.next.1.toNat,s.next.2)
theorem PsAt.same{s:Ps}(h:PsAt w rb s)(y:rb<w'.heap.size)(u:∀k,k<=rb->w'.heap[k]?=w.heap[k]?):PsAt w' rb s:=by
 obtain⟨J,⟨I,c0,a,c,rfl,B,z⟩,D,fz⟩:=h;have r:∀b j,b<=rb->w'.cell? ⟨b,j,none⟩=w.cell? ⟨b,j,none⟩:=λb j q=>aw (w:=w) (w':=w') (a:=⟨b,j,none⟩) (u b q)
 have H:∀b j,b<=rb->w'.frozen? ⟨b,j,none⟩=w.frozen? ⟨b,j,none⟩:=λb j q=>cf (w:=w) (w':=w') (a:=⟨b,j,none⟩) (u b q)
 refine⟨y,⟨_,(r rb 0 nt).trans c0,a,c,rfl,B,λi x A=>?_⟩,(r rb 1 nt).trans D,λj=>(H rb j nt).trans (fz j)⟩;obtain⟨b,o,C,F,G⟩:=z i x A;exact⟨b,o,C,F,(r b _ mw).trans G⟩
theorem PsAt.alloc{s:Ps}(h:PsAt w rb s)(o:Obj):PsAt (w.alloc o) rb s:=
 h.same (by have:=h.lt;simp;omega) λk j=>((Below.refl w.heap.size w).alloc nt o).block k (by have:=h.lt;omega)
theorem PsAt.later{s:Ps}(h:PsAt w rb s){p:Addr}(j:rb<p.block)(u:Value):PsAt (w.setCell p u) rb s:=
 h.same (by have:=h.lt;simp;omega) λk o=>bo w p u k mw
theorem PsAt.set{s:Ps}(h:PsAt w rb s)(q:BytesAt w rb v l):PsAt (w.setCell ⟨rb,0,none⟩ v) rb ⟨l,s.bad⟩:=by
 obtain⟨o,⟨u,c0,_⟩,r,fz⟩:=h;exact⟨by simp;exact o,⟨v,by simp[go_sem,c0],q.kept o ((Kept.refl rb w).setCell 0 v)⟩,by simp[go_sem,r],λj=>by simp[go_sem,fz]⟩
theorem PsAt.fails{s:Ps}(h:PsAt w rb s):PsAt ((w.setCell ⟨rb,0,none⟩ (.slice none 0 0)).setCell ⟨rb,1,none⟩ (.bool true)) rb failS:=by
 obtain⟨o,⟨r,c0,_⟩,q,fz⟩:=h;exact⟨by simp;exact o,⟨.slice none 0 0,by simp[go_sem,c0],BytesAt.nil _ _⟩,by simp[go_sem,q,failS],λj=>by simp[go_sem,fz]⟩
theorem qc2(rb:Nat)(s:Ps)(w:World)(h:PsAt w rb s):
  nz 119 #[.pointer (some ⟨rb,0,none⟩)] w λe w'=>e=.returned (.tuple #[])/\PsAt w' rb failS/\Kept rb w w':=by
 have H:=qd h;obtain⟨q,⟨o,c0,j⟩,r,fz⟩:=h;clear j;go_enter func119,ntmps119
 go_wp2_with fail
 refine bodyPost_end (results_none rfl _ _ _) rfl ⟨rfl,H.fails, ?_⟩;exact((Kept.refl rb w).setCell 0 _).setCell 1 _
theorem qxl(rb:Nat)(s:Ps)(n:Nat)(w:World)(h:PsAt w rb s)(r:n<=s.rest.length):
  nz 171 #[.pointer (some ⟨rb,0,none⟩),.int .i64 n] w λe w'=>∃v,e=.returned v/\BytesAt w' w'.heap.size v (s.rest.take n)/\PsAt w' rb ⟨s.rest.drop n,s.bad⟩/\Kept rb w w':=by
 have H:=qd h;obtain⟨A,⟨z,c0,y⟩,I,fz⟩:=h
 obtain⟨a,c,rfl,F,q⟩:∃a c,z=.slice a s.rest.length c/\s.rest.length<=c/\Hid (BytesAt w rb z s.rest):=by
  obtain⟨a,c,C,B,_⟩:=id y;exact⟨a,c,C,B,qd y⟩
 have J:decide ((n:Int) > (s.rest.length:Int))=false:=my;have K:(n:Int)<=(c:Int):=mw;have G:(n:Int)<=(s.rest.length:Int):=mw;have D:(0:Int)<=(n:Int):=mw;clear y;have o:∀u,Kept rb w (w.setCell ⟨rb,0,none⟩ u):=λu=>(Kept.refl rb w).setCell 0 u
 have j:=(q9 q).over n r
 by_cases hcn:c=n
 ·rw[bh hcn]at j
  subst hcn;rw[iu,show s.rest.length - c=0 by omega]at j;have j:=qd j;go_enter func171,ntmps171
  go_wp2_with fail
  go_ret;exact⟨_,rfl,((q.upto _ r).kept A (o _)).mono my,H.set j,o _⟩
 ·rw[aj hcn]at j
  have j:=qd j;go_enter func171,ntmps171
  go_wp2_with fail
  go_ret;exact⟨_,rfl,((q.upto n r).kept A (o _)).mono my,H.set j,o _⟩
theorem kp:(prog.info? 5).map (λi=>(i.zero,i.size,i.bytes))=some (some (.int .u8 0),1,1):=nl
theorem qrt(rb:Nat)(s:Ps)(n:Nat)(w:World)(h:PsAt w rb s)(F:s.rest.length<n)(D:n<=255):
  nz 171 #[.pointer (some ⟨rb,0,none⟩),.int .i64 n] w λe w'=>∃v,e=.returned v/\BytesAt w' w'.heap.size v (List.replicate n 0)/\PsAt w' rb failS/\Kept rb w w':=by
 have H:=qd h;obtain⟨G,⟨z,c0,u⟩,J,fz⟩:=h
 obtain⟨a,c,rfl,I⟩:∃a c,z=.slice a s.rest.length c/\s.rest.length<=c:=by
  obtain⟨a,c,C,B,_⟩:=id u;exact⟨a,c,C,B⟩
 have K:decide ((n:Int) > (s.rest.length:Int))=true:=my;clear u;have L:=run_make_row' (P:=prog) 51 5 (.int .u8 0) 1 underlying51 kp rfl .i64 .i64 n mw mw;go_enter func171,ntmps171
 go_wp2_with(go_at_call 119;refine(qc2 rb s _ H).mono ?_;rintro e j⟨rfl,o,y⟩;have o:=qd o)
 go_ret;have M:=y.size;refine⟨_,rfl,⟨some ⟨j.heap.size,0,none⟩,n, ?_, ?_,λi x A=>?_⟩,o.alloc _,y.alloc _⟩
 ·rw[lj]
  rfl
 ·rw[lj];exact nt
 ·obtain⟨r,q⟩:=au.1 A
  simp at r q;refine⟨j.heap.size,0,rfl,mx, ?_⟩;subst q;rw[ee];exact(World.rowIs_made j (.int .u8 0) n 5).cell r
theorem qc3(rb:Nat)(s:Ps)(n:Nat)(w:World)(h:PsAt w rb s)(j:n<=255):
  nz 171 #[.pointer (some ⟨rb,0,none⟩),.int .i64 n] w λe w'=>∃v,e=.returned v/\BytesAt w' w'.heap.size v (s.take n).1/\PsAt w' rb (s.take n).2/\Kept rb w w':=by
 by_cases hn:n<=s.rest.length
 ·rw[Ps.take,bh hn];exact qxl rb s n w h hn
 ·rw[Ps.take,aj hn];exact qrt rb s n w h mw j
theorem Ps.take_length(s:Ps)(n:Nat):(s.take n).1.length=n:=by
 rw[Ps.take]
 split
 ·rw[dh];omega
 ·exact lj ..
theorem yr(rb:Nat)(s:Ps)(w:World)(h:PsAt w rb s):
  nz 118 #[.pointer (some ⟨rb,0,none⟩)] w λe w'=>e=.returned (.int .u8 (s.next.1.toNat:Int))/\PsAt w' rb s.next.2/\Kept rb w w':=by
 have T:Hid _:=qd (qc3 rb s 1 w h nh);have j:=s.take_length 1
 obtain⟨x,q⟩:∃x,(s.take 1).1=[x]:=by
  match hl:(s.take 1).1 with
  | []=>rw[hl]at j;simp at j
  | [x]=>exact⟨x,rfl⟩
  | _::_::_=>rw[hl]at j;simp at j
 have u:s.next.1=x:=by rw[Ps.next,q];rfl
 have y:s.next.2=(s.take 1).2:=rfl;rw[u,y];rw[q]at T;clear h j q u y;go_enter func118,ntmps118
 go_wp2_with(go_at_call 171;refine T.mono ?_;rintro e D⟨v,rfl,⟨a,c,rfl,z,B⟩,r,C⟩;obtain⟨b,o,rfl,F,A⟩:=B 0 x rfl;have r:=qd r;simp only[da,Nat.add_zero]at A z ⊢)
 go_ret;exact⟨rfl,q9 r,C⟩
theorem x9(rb:Nat)(s:Ps)(m:Int)(w:World)(h:PsAt w rb s):
  nz 72 #[.pointer (some ⟨rb,0,none⟩),.int .i64 m] w λe w'=>e=.returned (.int .i64 ((s.upTo m).1:Int))/\PsAt w' rb (s.upTo m).2/\Kept rb w w':=by
 have T:Hid _:=qd (yr rb s w h);obtain⟨x,o⟩:∃x,s.next.1=x:=⟨_,rfl⟩;rw[o]at T;have B:(0:Int)<=(x.toNat:Int):=mw;have A:(x.toNat:Int)<256:=by have:=x.toNat_lt;omega
 clear h
 by_cases hm:m<(x.toNat:Int)
 ·have hd:decide ((x.toNat:Int) > m)=true:=by simpa using hm
  rw[Ps.upTo,o,bh hm];clear hm o;go_enter func72,ntmps72
  go_wp2_with(first|(go_at_call 118;refine T.mono ?_;rintro e u⟨rfl,j,r⟩;have j:=qd j)|(go_at_call 119;refine(qc2 rb _ _ j).mono ?_;rintro e z⟨rfl,q,y⟩;have q:=qd q))
  go_ret;exact⟨rfl,q9 q,r.trans y⟩
 ·have hd:decide ((x.toNat:Int) > m)=false:=by simpa using hm
  rw[Ps.upTo,o,aj hm];clear hm o;go_enter func72,ntmps72
  go_wp2_with(go_at_call 118;refine T.mono ?_;rintro e u⟨rfl,j,r⟩;have j:=qd j)
  go_ret;exact⟨rfl,q9 j,r⟩
end
section
def vjp(m:Int)(k:Nat)(x:UInt8):Int:=bits .or .i64 m (wrap64 ((x.toNat:Int) * 2 ^ (8 * k)))
def qvb(l:List UInt8):Nat->Int
 | 0=>0
 | k+1=>vjp (qvb l k) k (l.getD k 0)
theorem qkn(rb:Nat)(s:Ps)(w:World)(h:PsAt w rb s):
  nz 120 #[.pointer (some ⟨rb,0,none⟩)] w λe w'=>e=.returned (.int .i64 (qvb (s.take 8).1 8))/\PsAt w' rb (s.take 8).2/\Kept rb w w':=by
 have T:Hid _:=qd (qc3 rb s 8 w h nh);have H:=s.take_length 8;obtain⟨l,C⟩:∃l,(s.take 8).1=l:=⟨_,rfl⟩;rw[C]at T H ⊢;clear h C;obtain⟨N,r⟩:∃N,N=l.length:=⟨_,rfl⟩;have u:Hid (N=8):=qd mw;have G:Hid (N=l.length):=qd r;clear H;go_enter func120,ntmps120
 go_wp2_with(go_at_call 171;refine T.mono ?_;rintro e M⟨v,rfl,⟨a,c,rfl,I,z⟩,A,L⟩;obtain⟨b,o,rfl,X,y⟩:=z 0 (l[0]'(by have:=q9 u;omega)) (ag _);have A:=qd A;rw[←r]at I ⊢;have K:Hid _:=qd z;clear z y r)
 go_loop [3,9] (λn i=>∃(k:Nat) (m:Int),k<=N/\i=.int .i64 k/\n=.int .i64 m/\Hid (m=qvb l k)) (λ_ i=>N - (intOf i).toNat)
 case atStart=>exact⟨0,0,mw,rfl,rfl,qd rfl⟩
 case round=>
  obtain⟨k,m,Q,rfl,rfl,q⟩:=hrel
  by_cases wU:k<N
  ·have B:k<l.length:=by have:=q9 G;omega
   have D:k<8:=by have:=q9 u;omega
   obtain⟨R,O,F,_,y⟩:=q9 K k l[k] (ag _);simp at F;obtain⟨rfl,rfl⟩:=F;obtain⟨x,j⟩:∃x,l[k]=x:=⟨_,rfl⟩;rw[j]at y;have U:(0:Int)<=(x.toNat:Int):=mw;have P:(x.toNat:Int)<256:=by have:=x.toNat_lt;omega
   have J:Hid (vjp m k x=qvb l (k+1)):=qd (by rw[qvb,q9 q,aq,ag B,j];rfl);clear j q B G
   go_wp2_with fail
   case roundEnd=>exact⟨⟨k+1,_,mw,rfl,rfl,qd J⟩,by simp[intOf];omega⟩
  ·have:k=N:=mw
   subst this
   go_wp2_with fail
   go_ret;refine⟨?_,q9 A,L⟩;rw[←q9 u,←q9 q];rfl
end
section
def Ps.number(s:Ps):Int×Ps:=(qvb (s.take 8).1 8,(s.take 8).2)
def Ps.text(s:Ps)(most:Int):List UInt8×Ps:=(s.upTo most).2.take (s.upTo most).1
theorem Ps.upTo_le(s:Ps)(m:Int):(s.upTo m).1<=255:=by
 rw[Ps.upTo];have:=s.next.1.toNat_lt
 split
 ·exact bj _
 ·show s.next.1.toNat<=255
  omega
theorem pP(h:BytesAt w rb v l):(convert 51 9 v).run prog w=.ok (.string (BS l)) w:=by
 obtain⟨a,c,rfl,A,r⟩:=h
 cases l with
 | nil=>
  cases a with
  | none=>rw[show([]:mv).length=0 from rfl,run_convert_bytes_string w 51 9 5 none 0 c underlying51 underlying5 underlying9];rfl
  | some a=>exact run_convert_bytes_back (P:=prog) _ 51 9 5 a c [] underlying51 underlying5 underlying9 (λj q=>by simp at q)
 | cons x l=>
  obtain⟨b,o,rfl,_⟩:=r 0 x rfl;refine run_convert_bytes_back (P:=prog) _ 51 9 5 ⟨b,o,none⟩ c (x::l) underlying51 underlying5 underlying9 (λj q=>?_);obtain⟨B,z,s,_,y⟩:=r j _ (ag q);simp at s;obtain⟨rfl,rfl⟩:=s;have u:(⟨b,o,none⟩:Addr).add j=⟨b,o+j,none⟩:=by cases j<;>simp[Addr.add]
  rw[u];exact y
theorem qc5(rb:Nat)(s:Ps)(m:Int)(w:World)(h:PsAt w rb s):
  nz 121 #[.pointer (some ⟨rb,0,none⟩),.int .i64 m] w λe w'=>e=.returned (.string (BS (s.text m).1))/\PsAt w' rb (s.text m).2/\Kept rb w w':=by
 have T:Hid _:=qd (x9 rb s m w h);have y:Hid _:=qd (s.upTo_le m);rw[Ps.text];obtain⟨p,B⟩:∃p,s.upTo m=p:=⟨_,rfl⟩;rw[B]at T y ⊢;obtain⟨n,o⟩:=p;obtain⟨q,u⟩:∃q,o.take n=q:=⟨_,rfl⟩;have D:Hid (∀j,PsAt j rb o->nz 171 #[.pointer (some ⟨rb,0,none⟩),.int .i64 n] j λe w'=>∃v,e=.returned v/\BytesAt w' w'.heap.size v q.1/\PsAt w' rb q.2/\Kept rb j w'):=qd (by rw[←u];exact λj C=>qc3 rb o n j C y);clear h B y;show Calls _ _ _ _ λe w'=>e=.returned (.string (BS (o.take n).1))/\PsAt w' rb (o.take n).2/\Kept rb w w'
 rw[u];clear u;go_enter func121,ntmps121
 go_wp2_with(first|(go_at_call 72;refine T.mono ?_;rintro e j⟨rfl,A,G⟩;have A:=qd A)|(go_at_call 171;refine(D _ A).mono ?_;rintro e H⟨v,rfl,r,z,F⟩;have z:=qd z;have I:=pP r;obtain⟨a,c,rfl,r⟩:=r;clear r))
 go_ret;exact⟨rfl,q9 z,G.trans F⟩
end
section
theorem qs1(a:Option Addr)(n cap:Nat)(h:8<n)(j:n<=140737488355328)(w:World):
  nz 37 #[.slice a n cap] w λe w'=>e=.returned (.bool false)/\Xb w w':=by
 go_enter func37,ntmps37
 go_wp2_with fail
 go_ret;exact⟨rfl,nw⟩
theorem qye(b off cap:Nat)(ps:List Pr)(w:World)(b9:ps.length<=cap)(bJ:ps.length<=140737488355328)(Z5:qsh ps)(hw:EvAt w b off ps)(A0:b<w.heap.size)(h8:ps.length<=8)(E6:xK ps=false):
  nz 37 #[.slice (some ⟨b,off,none⟩) ps.length cap] w λe w'=>e=.returned (.bool false)/\Xb w w':=by
 have HNO:=qd E6;clear E6;go_enter func37,ntmps37
 go_wp2_with fail
 go_loopw [3,4,10] (λ_ _ i wr=>∃k:Nat,k<=ps.length/\i=.int .i64 k/\Hid (∀j,j<k->qct ps j=true)/\Xb w wr) (λ_ _ i _=>ps.length - (intOf i).toNat)
 case atStart=>exact⟨0,bj _,rfl,qd (λj hj=>absurd hj mw),nw⟩
 case round=>
  obtain⟨k,hk,rfl,hh,hb⟩:=hrel
  by_cases I4:k<ps.length
  ·obtain⟨p,hp⟩:∃p,ps[k]?=some p:=⟨_,ag I4⟩
   have bN:=hw.below hb A0;have dD:b<wr.heap.size:=bg A0 hb.size;obtain⟨h1,h2,h3,h4⟩:=bN k p hp;obtain⟨J2,dQ⟩:=Z5 p (ch hp);have E6:qct ps k=(jx p.name&&kV p.val&&!qg5 (ps.take k) p.name):=by unfold qct;rw[hp]
   have V2:(ps.take k).length=k:=by rw[dh];omega
   have fU:=qd (bN.take k);have HL:=qd V2;clear hp bN V2
   cases hn:jx p.name with
   | false=>
    have HN:=qd hn;clear hn E6
    go_wp2_with fail
    first | go_region_with (first | (go_at_call 58; refine (zd _ (by exact J2) _).mono ?_; rintro e w1 ⟨rfl, A1⟩; rw [show jx (BS p.name).data.toList = false from q9 HN]; obtain ⟨D5, F6⟩ := qj A1; have B9 : wr.heap.size < w1.heap.size := (by have := A1.size; simp at this; omega); have Q8 : Xb w w1 := qf (vQ hb _).drew A1)) | fail "no region"
    all_goals(go_wp2_with fail)
    all_goals(go_ret;exact⟨rfl,Q8⟩)
   | true=>
    have HN:=qd hn
    cases hv:kV p.val with
    | false=>
     have HV:=qd hv;clear hn hv E6
     go_wp2_with fail
     first | go_region_with (first | (go_at_call 58; refine (zd _ (by exact J2) _).mono ?_; rintro e w1 ⟨rfl, A1⟩; rw [show jx (BS p.name).data.toList = true from q9 HN]; obtain ⟨D5, F6⟩ := qj A1; have B9 : wr.heap.size < w1.heap.size := (by have := A1.size; simp at this; omega); have Q8 : Xb w w1 := qf (vQ hb _).drew A1) | (go_at_call 59; refine (zL p.val dQ _).mono ?_; rintro e w2 ⟨rfl, A3⟩; rw [q9 HV]; obtain ⟨I1, K9⟩ := qj A3; have D8 : wr.heap.size < w2.heap.size := (by have := A3.size; omega); have aL : Xb w w2 := qf Q8 A3)) | fail "no region"
     all_goals(go_wp2_with fail)
     all_goals(go_ret;exact⟨rfl,aL⟩)
    | true=>
     have HV:=qd hv
     cases hx:qg5 (ps.take k) p.name with
     | true=>
      have HH:=qd hx;clear hn hv hx E6
      go_wp2_with fail
      first | go_region_with (first | (go_at_call 58; refine (zd _ (by exact J2) _).mono ?_; rintro e w1 ⟨rfl, A1⟩; rw [show jx (BS p.name).data.toList = true from q9 HN]; obtain ⟨D5, F6⟩ := qj A1; have B9 : wr.heap.size < w1.heap.size := (by have := A1.size; simp at this; omega); have Q8 : Xb w w1 := qf (vQ hb _).drew A1) | (go_at_call 59; refine (zL p.val dQ _).mono ?_; rintro e w2 ⟨rfl, A3⟩; rw [q9 HV]; obtain ⟨I1, K9⟩ := qj A3; have D8 : wr.heap.size < w2.heap.size := (by have := A3.size; omega); have aL : Xb w w2 := qf Q8 A3) | (go_at_call 60; refine (vg5 HL cap (BS p.name) _ mw (by exact fU.later rfl dD A1 A3) mw).mono ?_; rintro e w3 ⟨rfl, D6⟩; rw [show qg5 (ps.take k) (BS p.name).data.toList = true from q9 HH]; have lM : Xb w w3 := qf aL D6)) | fail "no region"
      all_goals(go_wp2_with fail)
      all_goals(go_ret;exact⟨rfl,lM⟩)
     | false=>
      have HH:=qd hx
      have SN:Hid (∀j,j<k+1->qct ps j=true):=qd (λj hj=>by
       by_cases hjk:j<k
       ·exact q9 hh j hjk
       ·have:j=k:=mw
        rw[this,E6,hn,hv,hx];rfl)
      clear hn hv hx E6
      go_wp2_with fail
      first | go_region_with (first | (go_at_call 58; refine (zd _ (by exact J2) _).mono ?_; rintro e w1 ⟨rfl, A1⟩; rw [show jx (BS p.name).data.toList = true from q9 HN]; obtain ⟨D5, F6⟩ := qj A1; have B9 : wr.heap.size < w1.heap.size := (by have := A1.size; simp at this; omega); have Q8 : Xb w w1 := qf (vQ hb _).drew A1) | (go_at_call 59; refine (zL p.val dQ _).mono ?_; rintro e w2 ⟨rfl, A3⟩; rw [q9 HV]; obtain ⟨I1, K9⟩ := qj A3; have D8 : wr.heap.size < w2.heap.size := (by have := A3.size; omega); have aL : Xb w w2 := qf Q8 A3) | (go_at_call 60; refine (vg5 HL cap (BS p.name) _ mw (by exact fU.later rfl dD A1 A3) mw).mono ?_; rintro e w3 ⟨rfl, D6⟩; rw [show qg5 (ps.take k) (BS p.name).data.toList = false from q9 HH]; have lM : Xb w w3 := qf aL D6)) | fail "no region"
      all_goals(go_wp2_with fail)
      all_goals exact⟨⟨k+1,mw,by go_num,SN,lM⟩,by simp[intOf];omega⟩
  ·have U5:k=ps.length:=mw
   have:=qgr h8 (λj hj=>q9 hh j mw);rw[q9 HNO]at this;cases this
theorem qjv(b off cap:Nat)(ps:List Pr)(w:World)(q:ps.length<=cap)(j:ps.length<=140737488355328)(r:qsh ps)(o:EvAt w b off ps)(s:b<w.heap.size):
  nz 37 #[.slice (some ⟨b,off,none⟩) ps.length cap] w λe w'=>e=.returned (.bool (xK ps))/\Xb w w':=by
 cases E6:xK ps with
 | true=>exact qs0 b off cap ps w q j r o s E6
 | false=>
  by_cases h8:ps.length<=8
  ·exact qye b off cap ps w q j r o s h8 E6
  ·exact qs1 _ _ cap mw j w
theorem qmj(a:Option Addr)(cap:Nat)(w:World):
  nz 37 #[.slice a 0 cap] w λe w'=>e=.returned (.bool true)/\Xb w w':=by
 go_enter func37,ntmps37
 go_wp2_with fail
 go_loopw [3,4,10] (λ_ _ i wr=>i=.int .i64 0/\wr=w) (λ_ _ _ _=>0)
 case atStart=>exact⟨rfl,rfl⟩
 case round=>
  obtain⟨rfl,rfl⟩:=hrel
  go_wp2_with fail
  go_ret;exact⟨rfl,nw⟩
end
section
def RowB(w W:World)(g n:Nat)(f:Nat->Bool):Prop:=BoolsAt W g n f/\Below w.heap.size w W/\g<W.heap.size
theorem RowB.drewN{g:Nat}(h:RowB w W g n f)(k:Nat):RowB w (W.drewN k) g n f:=⟨h.1,dr h.2.1 _,h.2.2⟩
structure NowAt(w W:World)(g nb:Nat)(pc:Pc)(T:List UInt8)(f:Nat->Bool)(n i:Nat):Prop where
 row:W.rowIs nb 4 (n+1) (λj=>.bool (if j<i then nextB pc T f j else false))
 old:BoolsAt W g n f
 bel:Below w.heap.size w W
 lt:nb<W.heap.size
 glt:g<nb
section
variable {w W:World} {g nb n i:Nat} {pc:Pc} {T:mv} {f:Nat->Bool}
theorem NowAt.drewN(h:NowAt w W g nb pc T f n i)(k:Nat):NowAt w (W.drewN k) g nb pc T f n i:=⟨h.row,h.old,dr h.bel _,h.lt,h.glt⟩
theorem NowAt.skip(h:NowAt w W g nb pc T f n i)(o:nextB pc T f i=false):NowAt w W g nb pc T f n (i+1):=by
 refine⟨h.row.congr λj _=>?_,h.old,h.bel,h.lt,h.glt⟩
 by_cases hj:j=i
 ·subst hj;rw[aj (Nat.lt_irrefl _),bh (dj _),o]
 ·by_cases h1:j<i
  ·rw[bh h1,bh mw]
  ·rw[aj h1,aj mw]
theorem NowAt.set(h:NowAt w W g nb pc T f n i)(r:w.heap.size<=nb)(v:Bool)(q:nextB pc T f i=v):NowAt w (W.setCell ⟨nb,i,none⟩ (.bool v)) g nb pc T f n (i+1):=by
 refine⟨(h.row.set i (.bool v)).congr λj _=>?_,λj o=>?_,h.bel.setCell r _,by simpa using h.lt,h.glt⟩
 ·by_cases o:j=i
  ·subst o;rw[bh rfl,bh (dj _),q]
  ·rw[aj o]
   by_cases h1:j<i
   ·rw[bh h1,bh mw]
   ·rw[aj h1,aj mw]
 ·exact(aw (w:=W) (a:=⟨g,j,none⟩) (bo W ⟨nb,i,none⟩ _ g (by have:=h.glt;show g≠nb;omega))).trans (h.old j o)
theorem NowAt.done(h:NowAt w W g nb pc T f n i)(q:i=n+1):RowB w W nb n (nextB pc T f):=by
 refine⟨λj o=>?_,h.bel,h.lt⟩;rw[h.row.cell (i:=j) mw,bh mw]
theorem RowB.start(h:RowB w W g n f)(pc:Pc)(T:mv):NowAt w (W.alloc (.cells (madeCells #[.bool false] (n+1)) 4)) g W.heap.size pc T f n 0:=by
 refine⟨(World.rowIs_made W (.bool false) (n+1) 4).congr λj _=>by rw[aj (Nat.not_lt_zero _)],λj o=>?_,h.2.1.alloc h.2.1.size _,mx,h.2.2⟩;rw[bt _ _ _ h.2.2];exact h.1 j o
theorem qwm(w:World)(n:Nat):RowB w (w.alloc (.cells ((madeCells #[.bool false] (n+1)).setIfInBounds 0 (.bool true)) 4)) w.heap.size n (λj=>j==0):=by
 refine⟨λj s=>?_,nw.alloc nt _,mx⟩;have q:((madeCells #[.bool false] (n+1)).setIfInBounds 0 (Value.bool true)).size=n+1:=by rw[Array.size_setIfInBounds];exact size_madeCells _ _
 have r:=World.rowIs_alloc w ((madeCells #[.bool false] (n+1)).setIfInBounds 0 (.bool true)) 4 (λj=>.bool (j==0)) (λi o=>by
  rw[q]at o;rw[Array.getElem?_setIfInBounds]
  by_cases h0:i=0
  ·subst h0
   rw[bh rfl,bh (by rw[size_madeCells _ _];exact o)];rfl
  ·rw[aj (λh=>h0 h.symm)]
   simp[madeCells,o,Nat.mod_one,h0])
 rw[q]at r;exact r.cell (i:=j) mw
end
theorem qet{s:mu}{c:UInt8}{i:Nat}(h:i<s.size):nextB ⟨0,c⟩ s.data.toList f (i+1)=(f i&&(s[i]==c)):=by rw[←qty s i h];rfl
theorem qwa(s p e:mu)(hs:s.size<=1000)(hp:p.size<=1000)(hcut:zi e.data.toList p.data.toList=some ps)(w:World):
  nz 261 #[.string s,.string p,.string e] w λen w'=>en=.returned (.bool (yF ps s.data.toList λj=>j==0))/\Xb w w':=by
 obtain⟨R,hR⟩:∃r,yF ps s.data.toList (λj=>j==0)=r:=⟨_,rfl⟩;rw[hR];have FQ:∀w,(Instr.makeSlice 259 (.int .i64 ((s.size:Int)+1)) (.int .i64 ((s.size:Int)+1))).run prog w=.ok (.slice (some ⟨w.heap.size,0,none⟩) (s.size+1) (s.size+1)) (w.alloc (.cells (madeCells #[.bool false] (s.size+1)) 4)):=λw=>run_make_row' (P:=prog) 259 4 (.bool false) 1 underlying259 qbh rfl .i64 .i64 (s.size+1) mw mw w
 have fW:Hid (R=yF ps s.data.toList (λj=>j==0)):=qd hR.symm;have lQ:Hid (zi e.data.toList (p.data.toList.drop 0)=some ps):=qd hcut;have cU:=World.rowIs_made w (.bool false) (s.size+1) 4;have mS:=cU.cell (i:=0) mw;have iN:=cU.frozen 0;have ST:=qd (qwm w s.size);have B8:(0:Int)<(s.size:Int)+1:=mw;clear hR hcut cU;go_enter func261,ntmps261
 go_wp2_with fail
 clear mS iN
 go_loopw [7,8] (λv i wr=>∃(k:Nat) (F:List Pc) (f:Nat->Bool) (g:Nat),k<=p.size/\i=.int .i64 k/\v=.slice (some ⟨g,0,none⟩) (s.size+1) (s.size+1)/\Hid (zi e.data.toList (p.data.toList.drop k)=some F)/\Hid (R=yF F s.data.toList f)/\Hid (RowB w wr g s.size f)) (λ_ i _=>p.size - (intOf i).toNat)
 case atStart=>exact⟨0,ps,_,_,bj _,rfl,rfl,lQ,fW,ST⟩
 case round=>
  clear fW lQ ST;obtain⟨k,F,f,g,hk,rfl,rfl,K,U,y⟩:=hrel;have aH:=(q9 y).2.2
  by_cases A0:k<p.size
  ·have Q:p.data.toList[k]?=some p[k]:=by rw[ag (by rw[qr];exact A0),qy p k A0]
   have N5:(0:Int)<=(k:Int):=mw;have A5:(k:Int)<(p.size:Int):=mw
   by_cases u:e.data.toList.head?=some p[k]
   ·have X:k+1<p.size:=by
     apply Decidable.byContradiction;intro hn;have z:=q9 K;rw[qbc Q u (by rw[qr];omega)]at z;cases z
    have dC:p.data.toList[k+1]?=some p[k+1]:=by rw[ag (by rw[qr];exact X),qy p (k+1) X]
    obtain⟨D,tF,I8⟩:∃D,Hid (zi e.data.toList (p.data.toList.drop (k+2))=some D)/\Hid (R=yF D s.data.toList (nextB ⟨0,p[k+1]⟩ s.data.toList f)):=by
     have z:=q9 K;rw[qe6 Q u dC]at z;obtain⟨q,h2,h3⟩:=Option.map_eq_some_iff.1 z;exact⟨q,qd h2,qd (by rw[q9 U,←h3];rfl)⟩
    have C:0<e.size:=by
     apply Decidable.byContradiction;intro hn;have:e=⟨#[]⟩:=by cases e with|mk d=>simp[ByteArray.size]at hn;simp[hn]
     subst this;simp at u
    have M:e.data.toList.head?=some e[0]:=by
     have:=ag (l:=e.data.toList) (i:=0) (by rw[qr];exact C);rw[qy e 0 C]at this;rw[List.head?_eq_getElem?];exact this
    have L:((p[k].toNat:Int)==(e[0].toNat:Int))=true:=by rw[yA,dg];rw[M]at u;injection u with u;exact u.symm
    have O:=pD C;have PI:(0:Int)<(e.size:Int):=mw;have cJ:(k:Int)+1<(p.size:Int):=mw;have iT:(0:Int)<=(k:Int)+1:=mw;clear Q u dC M K U
    go_wp2_with fail
    go_cut [9] (λs9 Z=>s9=.bool true/\Hid (RowB w Z g s.size f))
    case first=>
     go_quiet (fail)
     go_wp2_with fail
     go_meet
     exact⟨rfl,qd (y.drewN _)⟩
    case rest=>
     obtain⟨rfl,y⟩:=hcut;clear L O PI C;have aH:=(q9 y).2.2
     go_wp2_with fail
     obtain⟨nb,H⟩:∃nb,wc.heap.size=nb:=⟨_,rfl⟩;rw[H]
     go_loopw [11] (λi wq=>∃j:Nat,j<=s.size+1/\i=.int .i64 j/\Hid (NowAt w wq g nb (⟨0,p[k+1]⟩) s.data.toList f s.size j)) (λi _=>s.size+1 - (intOf i).toNat)
     case atStart=>exact⟨0,bj _,rfl,qd (by have:=(q9 y).start (⟨0,p[k+1]⟩) s.data.toList;rw[H]at this;exact this)⟩
     case round=>
      obtain⟨j,hj,rfl,o⟩:=hrel;have I:w.heap.size<=nb:=by have:=(q9 y).2.1.size;omega
      clear H;have mV:=(q9 o).lt;have hgn:=(q9 o).glt;have ng:¬g=nb:=mw;have ng2:¬nb=g:=mw
      by_cases tW:j<=s.size
      ·have rf:=(q9 o).row.frozen j
       have rj:wr.cell? ⟨nb,j,none⟩=some (.bool false):=by have:=(q9 o).row.cell (i:=j) mw;rw[this,aj (Nat.lt_irrefl _)]
       have oj:=(q9 o).old j tW
       cases j with
       | zero=>
        rw[show((0:Nat):Int)=0 from rfl]
        go_wp2_with fail
        go_quiet (fail)
        go_wp2_with fail
        go_roundw
        case rel=>exact⟨0+1,mw,by go_num,qd ((o.drewN _).skip (by skip;simp[nextB]))⟩
        case measure=>(simp[intOf]<;>omega)
       | succ i=>
        rw[show((i+1:Nat):Int)=(i:Int)+1 from rfl];have M7:(0:Int)<=(i:Int):=mw;have dV:(i:Int)+1<=(s.size:Int):=mw;have fK:(i:Int)<(s.size:Int):=mw;have tY:(0:Int)<(i:Int)+1:=mw;have G:i<s.size:=mw;have PD:(i:Int)+1<(s.size:Int)+1:=mw;have PC:(i:Int)<(s.size:Int)+1:=mw;have J:=(q9 o).old i mw;cases hx:(p[k+1]==s[i])
        ·have L:=(yA _ _).trans hx
         go_wp2_with fail
         go_quiet (fail)
         go_wp2_with fail
         go_roundw
         case rel=>exact⟨i+1+1,mw,by go_num,qd ((o.drewN _).skip (by rw[qet G,show(s[i]==p[k+1])=false by rw[Bool.beq_comm];exact hx];exact fj _))⟩
         case measure=>(simp[intOf]<;>omega)
        ·have L:=(yA _ _).trans hx
         obtain⟨Y,B⟩:∃b,f i=b:=⟨_,rfl⟩;rw[B]at J
         go_wp2_with fail
         go_quiet (fail)
         go_wp2_with fail
         go_roundw
         case rel=>exact⟨i+1+1,mw,by go_num,qd ((o.drewN _).set I _ (by rw[qet G,B,show(s[i]==p[k+1])=true by rw[Bool.beq_comm];exact hx];exact ig _))⟩
         case measure=>(simp[intOf]<;>omega)
      ·have PA:j=s.size+1:=mw
       have hjn:¬(j:Int)<=(s.size:Int):=mw
       go_wp2_with fail
       go_roundw
       case rel=>exact⟨k+2,D,_,nb,mw,by go_num,rfl,tF,I8,qd (o.done PA)⟩
       case measure=>simp[intOf];omega
   ·obtain⟨D,tF,I8⟩:∃D,Hid (zi e.data.toList (p.data.toList.drop (k+1))=some D)/\Hid (R=yF D s.data.toList (nextB (vD p[k]) s.data.toList f)):=by
     have z:=q9 K;rw[pQ Q u]at z;obtain⟨q,h2,h3⟩:=Option.map_eq_some_iff.1 z;exact⟨q,qd h2,qd (by rw[q9 U,←h3];rfl)⟩
    clear K U Q
    go_wp2_with fail
    go_cut [9] (λs9 Z=>s9=.bool false/\Hid (RowB w Z g s.size f))
    case first=>
     by_cases C:0<e.size
     ·have M:e.data.toList.head?=some e[0]:=by
       have:=ag (l:=e.data.toList) (i:=0) (by rw[qr];exact C);rw[qy e 0 C]at this;rw[List.head?_eq_getElem?];exact this
      have L:((p[k].toNat:Int)==(e[0].toNat:Int))=false:=by rw[yA,ae];intro h;rw[M,h]at u;exact u rfl
      have O:=pD C;have PI:(0:Int)<(e.size:Int):=mw;clear u M
      go_quiet (fail)
      go_wp2_with fail
      go_meet
      exact⟨rfl,qd (y.drewN _)⟩
     ·have PH:e=⟨#[]⟩:=by cases e with|mk d=>simp[ByteArray.size]at C;simp[C]
      subst PH;clear C u
      go_quiet (fail)
      go_wp2_with fail
      go_meet
      exact⟨rfl,qd (y.drewN _)⟩
    case rest=>
     obtain⟨rfl,y⟩:=hcut;clear u;have aH:=(q9 y).2.2
     go_wp2_with fail
     obtain⟨nb,H⟩:∃nb,wc.heap.size=nb:=⟨_,rfl⟩;rw[H]
     go_loopw [11] (λi wq=>∃j:Nat,j<=s.size+1/\i=.int .i64 j/\Hid (NowAt w wq g nb (vD p[k]) s.data.toList f s.size j)) (λi _=>s.size+1 - (intOf i).toNat)
     case atStart=>exact⟨0,bj _,rfl,qd (by have:=(q9 y).start (vD p[k]) s.data.toList;rw[H]at this;exact this)⟩
     case round=>
      obtain⟨j,hj,rfl,o⟩:=hrel;have I:w.heap.size<=nb:=by have:=(q9 y).2.1.size;omega
      clear H;have mV:=(q9 o).lt;have hgn:=(q9 o).glt;have ng:¬g=nb:=mw;have ng2:¬nb=g:=mw
      by_cases tW:j<=s.size
      ·have rf:=(q9 o).row.frozen j
       have rj:wr.cell? ⟨nb,j,none⟩=some (.bool false):=by have:=(q9 o).row.cell (i:=j) mw;rw[this,aj (Nat.lt_irrefl _)]
       have oj:=(q9 o).old j tW;cases h37:((p[k].toNat:Int)==37)
       ·cases h95:((p[k].toNat:Int)==95)
        ·skip
         cases j with
         | zero=>
          rw[show((0:Nat):Int)=0 from rfl]
          go_wp2_with fail
          go_quiet (fail)
          go_wp2_with fail
          go_roundw
          case rel=>exact⟨0+1,mw,by go_num,qd ((o.drewN _).skip (by have A:vD p[k]=⟨0,p[k]⟩:=(by simp[vD,h37,h95]);rw[A];simp[nextB]))⟩
          case measure=>(simp[intOf]<;>omega)
         | succ i=>
          rw[show((i+1:Nat):Int)=(i:Int)+1 from rfl];have M7:(0:Int)<=(i:Int):=mw;have dV:(i:Int)+1<=(s.size:Int):=mw;have fK:(i:Int)<(s.size:Int):=mw;have tY:(0:Int)<(i:Int)+1:=mw;have G:i<s.size:=mw;have PD:(i:Int)+1<(s.size:Int)+1:=mw;have PC:(i:Int)<(s.size:Int)+1:=mw;have J:=(q9 o).old i mw;cases hx:(p[k]==s[i])
          ·have L:=(yA _ _).trans hx
           go_wp2_with fail
           go_quiet (fail)
           go_wp2_with fail
           go_roundw
           case rel=>exact⟨i+1+1,mw,by go_num,qd ((o.drewN _).skip (by have A:vD p[k]=⟨0,p[k]⟩:=(by simp[vD,h37,h95]);rw[A];rw[qet G,show(s[i]==p[k])=false by rw[Bool.beq_comm];exact hx];exact fj _))⟩
           case measure=>(simp[intOf]<;>omega)
          ·have L:=(yA _ _).trans hx
           obtain⟨Y,B⟩:∃b,f i=b:=⟨_,rfl⟩;rw[B]at J
           go_wp2_with fail
           go_quiet (fail)
           go_wp2_with fail
           go_roundw
           case rel=>exact⟨i+1+1,mw,by go_num,qd ((o.drewN _).set I _ (by have A:vD p[k]=⟨0,p[k]⟩:=(by simp[vD,h37,h95]);rw[A];rw[qet G,B,show(s[i]==p[k])=true by rw[Bool.beq_comm];exact hx];exact ig _))⟩
           case measure=>(simp[intOf]<;>omega)
        ·skip
         cases j with
         | zero=>
          rw[show((0:Nat):Int)=0 from rfl]
          go_wp2_with fail
          go_quiet (fail)
          go_wp2_with fail
          go_roundw
          case rel=>exact⟨0+1,mw,by go_num,qd ((o.drewN _).skip (by have A:vD p[k]=⟨1,0⟩:=(by simp[vD,h37,h95]);rw[A];simp[nextB]))⟩
          case measure=>(simp[intOf]<;>omega)
         | succ i=>
          rw[show((i+1:Nat):Int)=(i:Int)+1 from rfl];have M7:(0:Int)<=(i:Int):=mw;have dV:(i:Int)+1<=(s.size:Int):=mw;have fK:(i:Int)<(s.size:Int):=mw;have tY:(0:Int)<(i:Int)+1:=mw;have G:i<s.size:=mw;have PD:(i:Int)+1<(s.size:Int)+1:=mw;have PC:(i:Int)<(s.size:Int)+1:=mw;have J:=(q9 o).old i mw;obtain⟨Y,B⟩:∃b,f i=b:=⟨_,rfl⟩;rw[B]at J
          go_wp2_with fail
          go_quiet (fail)
          go_wp2_with fail
          go_roundw
          case rel=>exact⟨i+1+1,mw,by go_num,qd ((o.drewN _).set I _ (by have A:vD p[k]=⟨1,0⟩:=(by simp[vD,h37,h95]);rw[A];simp[nextB,B]))⟩
          case measure=>(simp[intOf]<;>omega)
       ·cases hfj:f j
        ·rw[hfj]at oj
         cases j with
         | zero=>
          rw[show((0:Nat):Int)=0 from rfl]
          go_wp2_with fail
          go_roundw
          case rel=>exact⟨0+1,mw,by go_num,qd ((o).set I _ (by have A:vD p[k]=⟨2,0⟩:=(by simp[vD,h37]);rw[A];simp[nextB,hfj]))⟩
          case measure=>(simp[intOf]<;>omega)
         | succ i=>
          rw[show((i+1:Nat):Int)=(i:Int)+1 from rfl];have M7:(0:Int)<=(i:Int):=mw;have dV:(i:Int)+1<=(s.size:Int):=mw;have fK:(i:Int)<(s.size:Int):=mw;have tY:(0:Int)<(i:Int)+1:=mw;have G:i<s.size:=mw;have PD:(i:Int)+1<(s.size:Int)+1:=mw;have PC:(i:Int)<(s.size:Int)+1:=mw;have J:=(q9 o).old i mw;obtain⟨Y,B⟩:∃b,nextB (vD p[k]) s.data.toList f i=b:=⟨_,rfl⟩;have ni:wr.cell? ⟨nb,i,none⟩=some (.bool Y):=by have:=(q9 o).row.cell (i:=i) mw;rw[this,bh (dj _),B]
          have BW:=qd B;clear B
          go_wp2_with fail
          go_roundw
          case rel=>exact⟨i+1+1,mw,by go_num,qd ((o).set I _ (by have q:=q9 BW;rw[show vD p[k]=⟨2,0⟩ by simp[vD,h37]]at q ⊢;simp[nextB,hfj,q]))⟩
          case measure=>(simp[intOf]<;>omega)
        ·rw[hfj]at oj
         go_wp2_with fail
         go_roundw
         case rel=>exact⟨j+1,mw,by go_num,qd ((o).set I _ (by have A:vD p[k]=⟨2,0⟩:=(by simp[vD,h37]);rw[A];cases j<;>simp[nextB,hfj]))⟩
         case measure=>(simp[intOf]<;>omega)
      ·have PA:j=s.size+1:=mw
       have hjn:¬(j:Int)<=(s.size:Int):=mw
       go_wp2_with fail
       go_roundw
       case rel=>exact⟨k+1,D,_,nb,mw,by go_num,rfl,tF,I8,qd (o.done PA)⟩
       case measure=>simp[intOf];omega
  ·have U6:k=p.size:=mw
   have X:=(q9 y).1 s.size nt
   have fF:F=[]:=by
    have z:=q9 K;rw[U6,qe5 (by rw[qr];omega)]at z;injection z with z;exact z.symm
   have YS:Hid (R=f s.size):=qd (by rw[q9 U,fF,yF,qr]);have oX:¬(k:Int)<(p.size:Int):=mw;obtain⟨r,hr⟩:∃r,f s.size=r:=⟨_,rfl⟩;rw[hr]at X YS;clear U6 fF hr
   go_wp2_with fail
   go_ret;exact⟨by rw[q9 YS];rfl,y.2.1⟩
end
section
def yX(x:V)(ts:List (List UInt8))(k:Nat):V:=(ts.take k).foldl (λf t=>orV f (eqV x (tV t))) (bV false)
theorem qiy(h:ts[k]?=some t):yX x ts (k+1)=orV (yX x ts k) (eqV x (tV t)):=by
 unfold yX;rw[dn,h];simp
theorem qpe:yX x ts ts.length=gP x ts:=by unfold yX gP;rw[fk]
structure VarAt(w W:World)(vb:Nat)(v:V):Prop where
 c0:W.cell? ⟨vb,0,none⟩=some (.int .i64 v.kind)
 c1:W.cell? ⟨vb,1,none⟩=some (.int .i64 v.num)
 c2:W.cell? ⟨vb,2,none⟩=some (.string (BS v.str))
 fz:∀i,W.frozen? ⟨vb,i,none⟩=false
 lt:vb<W.heap.size
 bel:Below w.heap.size w W
theorem VarAt.below{W':World}{v:V}(h:VarAt w W vb v)(j:Xb W W'):VarAt w W' vb v:=
 ⟨((qj j).1 _ _ h.lt).trans h.c0,((qj j).1 _ _ h.lt).trans h.c1,((qj j).1 _ _ h.lt).trans h.c2,λi=>((qj j).2 _ i h.lt).trans (h.fz i),bg h.lt j.size,qf h.bel j⟩
theorem VarAt.new{w W:World}(j:Xb w W)(v:V):VarAt w (W.alloc (.cells #[.int .i64 v.kind,.int .i64 v.num,.string (BS v.str)] 26)) W.heap.size v:=
 ⟨mx,mx,mx,λi=>mx,mx,j.alloc j.size _⟩
theorem VarAt.put{v:V}(h:VarAt w W vb v)(j:w.heap.size<=vb)(u:V):VarAt w (((W.setCell ⟨vb,0,none⟩ (.int .i64 u.kind)).setCell ⟨vb,1,none⟩ (.int .i64 u.num)).setCell ⟨vb,2,none⟩ (.string (BS u.str))) vb u:=by
 refine⟨?_, ?_, ?_,λi=>?_,by simpa using h.lt,((h.bel.setCell j _).setCell j _).setCell j _⟩
 ·simp[go_sem,h.c0]
 ·simp[go_sem,h.c1]
 ·simp[go_sem,h.c2]
 ·simp[go_sem,h.fz i]
theorem VarAt.other{j:Nat}{v:V}(h:VarAt w W vb v)(o:vb≠j)(q:w.heap.size<=j)(a c d:Value):VarAt w (((W.setCell ⟨j,0,none⟩ a).setCell ⟨j,1,none⟩ c).setCell ⟨j,2,none⟩ d) vb v:=by
 have e:(((W.setCell ⟨j,0,none⟩ a).setCell ⟨j,1,none⟩ c).setCell ⟨j,2,none⟩ d).heap[vb]?=W.heap[vb]?:=by
  rw[bo _ ⟨j,2,none⟩ _ vb o,bo _ ⟨j,1,none⟩ _ vb o,bo _ ⟨j,0,none⟩ _ vb o]
 exact⟨(aw (w:=W) (a:=⟨vb,0,none⟩) e).trans h.c0,(aw (w:=W) (a:=⟨vb,1,none⟩) e).trans h.c1,(aw (w:=W) (a:=⟨vb,2,none⟩) e).trans h.c2,λi=>(cf (w:=W) (a:=⟨vb,i,none⟩) e).trans (h.fz i),by simpa using h.lt,((h.bel.setCell q _).setCell q _).setCell q _⟩
section
variable {w:World} {a N c:Int} {iv ev:Value} {S E:mu} {neg:Bool}
theorem qx3{cap C:Nat}{I:Option Addr}(hn:0<n)(F7:b<w.heap.size)(x0:Xc w b 0 (.int .i64 x.kind))(x1:Xc w b 1 (.int .i64 x.num))(x2:Xc w b 2 (.string (BS x.str)))(cE:ts.length<=1000)
  (hl:∀k t,ts[k]?=some t->∃lb,I=some ⟨lb,0,none⟩/\lb<w.heap.size/\Xc w lb k (.string (BS t))) :
  nz 176 #[.agg #[.string ⟨#[73,78]⟩,.int .i64 a,iv,.string S,.string E,.slice I ts.length C,.int .i64 N,.bool neg,.int .i64 c],.slice (some ⟨b,0,none⟩) n cap,ev] w λe w'=>e=.returned (vV (gP x ts))/\Xb w w':=by
 have aW:(0:Int)<(n:Int):=mw;obtain⟨q,Q⟩:∃k,ts.length=k:=⟨_,rfl⟩;have uO:=qd Q;rw[Q]at cE ⊢;have HL:=qd hl;have RT:=qd (λw=>vM false w);clear hl Q;obtain⟨R,Y⟩:∃r,gP x ts=r:=⟨_,rfl⟩;have HR:Hid (yX x ts q=R):=qd (by rw[←q9 uO,qpe,Y]);rw[Y];clear Y;go_enter func176,ntmps176
 go_wp2_with(go_at_call 132;refine(RT _).mono ?_;rintro e o⟨rfl,L⟩;have G:=qd (qf (qI w _ _) L);obtain⟨F,F6⟩:=qj L;have B9:w.heap.size+2<=o.heap.size:=(by have:=L.size;simp at this;omega);have U:Xc o w.heap.size 5 (.slice I q C):=(F _ 5 (by simp;try omega)).trans mx;have r0:Xc o (w.heap.size+1) 0 (.int .i64 0):=(F _ 0 mx).trans mx;have r1:Xc o (w.heap.size+1) 1 (.int .i64 0):=(F _ 1 mx).trans mx;have r2:Xc o (w.heap.size+1) 2 (.string ⟨#[]⟩):=(F _ 2 mx).trans mx;have rz:Xf o (w.heap.size+1):=(λi=>(F6 _ i mx).trans mx);clear L F F6;simp only[vV])
 obtain⟨vb,H⟩:∃v,o.heap.size=v:=⟨_,rfl⟩;have Z:Hid (VarAt o (o.alloc (.cells #[.int .i64 (bV false).kind,.int .i64 (bV false).num,.string (BS (bV false).str)] 26)) o.heap.size (yX x ts 0)):=qd (VarAt.new nw _);rw[H]at Z;rw[H]
 go_loopw [8] (λi wr=>∃k:Nat,k<=q/\i=.int .i64 k/\Hid (VarAt o wr vb (yX x ts k))) (λi _=>q - (intOf i).toNat)
 case atStart=>exact⟨0,bj _,rfl,Z⟩
 case round=>
  clear Z;obtain⟨k,hk,rfl,j⟩:=hrel;have HVB:=qd H;have NQ:w.heap.size+2<=vb:=mw;clear H;obtain⟨s,M⟩:=qj j.bel;have iJ:=(q9 j).lt;have e5:Xc wr w.heap.size 5 (.slice I q C):=(s _ 5 mw).trans U
  by_cases A0:k<q
  ·obtain⟨t,X⟩:∃t,ts[k]?=some t:=⟨_,ag (by have:=q9 uO;omega)⟩
   obtain⟨lb,rfl,L9,nD⟩:=q9 HL k t X;have HK:Hid (yX x ts (k+1)=orV (yX x ts k) (eqV x (tV t))):=qd (qiy X);have el:Xc wr lb k (.string (BS t)):=(s _ k mw).trans ((G.cell (p:=⟨lb,k,none⟩) L9).trans nD);have e0:Xc wr b 0 (.int .i64 x.kind):=(s _ 0 mw).trans ((G.cell (p:=⟨b,0,none⟩) F7).trans x0);have e1:Xc wr b 1 (.int .i64 x.num):=(s _ 1 mw).trans ((G.cell (p:=⟨b,1,none⟩) F7).trans x1);have e2:Xc wr b 2 (.string (BS x.str)):=(s _ 2 mw).trans ((G.cell (p:=⟨b,2,none⟩) F7).trans x2);have RE:=qd (λw=>qa1 x (tV t) w);simp only[vV,tV]at RE;have N5:(0:Int)<=(k:Int):=mw;have A5:(k:Int)<(q:Int):=mw;have q1:b<wr.heap.size:=mw;have q2:b<wr.heap.size+1:=mw;have q3:lb<wr.heap.size:=mw;have q4:lb<wr.heap.size+1:=mw;have q5:w.heap.size<wr.heap.size:=mw;have q6:w.heap.size<wr.heap.size+1:=mw;have n1:¬b=wr.heap.size:=mw;have n2:¬lb=wr.heap.size:=mw;have n3:¬w.heap.size=wr.heap.size:=mw;have n4:¬wr.heap.size=b:=mw;have n5:¬wr.heap.size=lb:=mw;have n6:¬wr.heap.size=w.heap.size:=mw;have oV:vb<wr.heap.size+1:=mw;obtain⟨J,z⟩:∃v,yX x ts k=v:=⟨_,rfl⟩;rw[z]at j HK;obtain⟨RC,P⟩:∃v,eqV x (tV t)=v:=⟨_,rfl⟩;have GG:eqV x { kind:=3,num:=0,str:=t }=RC:=P;rw[P]at HK;rw[GG]at RE;clear z P GG X nD s M U x0 x1 x2
   go_wp2_with fail
   go_cut [9] (λs9 wx=>∃O,s9=.pointer (some ⟨O,0,none⟩)/\Hid (VarAt o wx vb J)/\Hid (VarAt o wx O RC))
   case first=>
    go_region_held3 (λW=>Xc W b 0 (.int .i64 x.kind)/\Xc W b 1 (.int .i64 x.num)/\Xc W b 2 (.string (BS x.str))/\Xc W w.heap.size 5 (.slice (some ⟨lb,0,none⟩) q C)/\Xc W lb k (.string (BS t))) (first|with_reducible assumption|go_keep) ((go_at_call 222;refine(RE _).mono ?_;rintro e u⟨rfl,A⟩;obtain⟨D,K9⟩:=qj A;have D8:wr.heap.size<=u.heap.size:=(by have:=A.size;simp at this;omega);have uB:(Xc u b 0 (.int .i64 x.kind)/\Xc u b 1 (.int .i64 x.num)/\Xc u b 2 (.string (BS x.str))/\Xc u w.heap.size 5 (.slice (some ⟨lb,0,none⟩) q C)/\Xc u lb k (.string (BS t))):=(by refine⟨(D _ _ ?_).trans ?_,(D _ _ ?_).trans ?_,(D _ _ ?_).trans ?_,(D _ _ ?_).trans ?_,(D _ _ ?_).trans ?_⟩<;>simp[*]);  have p1:¬b=u.heap.size:=mw;have p2:¬lb=u.heap.size:=mw;have p3:¬w.heap.size=u.heap.size:=mw))
    all_goals
     go_wp2_with fail
     go_meet
     first
      | exact⟨_,rfl,qd ((j.below (qf nw.drew A)).below (nw.alloc nt _)),qd (VarAt.new (qf j.bel (qf nw.drew A)) _)⟩
      | exact⟨_,rfl,qd ((j.below (qf (nw.alloc nt _).drew A)).other mw j.bel.size _ _ _),qd (((VarAt.new j.bel nV).below (qf nw.drew A)).put j.bel.size _)⟩
   case rest=>
    obtain⟨O,rfl,B,K⟩:=hcut;have RO:=qd (λw=>qwk J RC w);simp only[vV]at RO;have v0:=(q9 B).c0;have v1:=(q9 B).c1;have v2:=(q9 B).c2;have u0:=(q9 K).c0;have u1:=(q9 K).c1;have u2:=(q9 K).c2;have vl2:=(q9 B).lt;have ql2:=(q9 K).lt;clear j
    go_wp2_with(go_at_call 221;refine(RO _).mono ?_;rintro e w3⟨rfl,D6⟩;have y:=qd (B.below D6);have y0:=(q9 y).c0;have y1:=(q9 y).c1;have y2:=(q9 y).c2;have yz:=(q9 y).fz;have yl:=(q9 y).lt;clear D6)
    go_roundw
    case rel=>exact⟨k+1,mw,by go_num,qd (by rw[q9 HK];exact y.put (by have:=q9 HVB;omega) _)⟩
    case measure=>simp[intOf];omega
  ·have U6:k=q:=mw
   have oX:¬(k:Int)<(q:Int):=mw;obtain⟨J,z⟩:∃v,yX x ts k=v:=⟨_,rfl⟩;have eB:Hid (R=J):=qd (by rw[←q9 HR,←z,U6]);rw[z]at j;have v0:=(q9 j).c0;have v1:=(q9 j).c1;have v2:=(q9 j).c2;have t0:=(s (w.heap.size+1) 0 mw).trans r0;have t1:=(s (w.heap.size+1) 1 mw).trans r1;have t2:=(s (w.heap.size+1) 2 mw).trans r2;have tz:Xf wr (w.heap.size+1):=λi=>(M (w.heap.size+1) i mw).trans (rz i)
   have tl:w.heap.size+1<wr.heap.size:=mw;have nv:¬vb=w.heap.size+1:=mw;have eG:=qd (qf G j.bel);clear s M z U6 r0 r1 r2 rz U
   go_wp2_with fail
   refine ak (by simp[go_sem,t0,t1,t2]<;>rfl) rfl ⟨?_, ?_⟩
   ·rw[q9 eB];rfl
   ·exact(((eG.setCell mx _).setCell mx _).setCell mx _)
end
end
section
theorem qf0{ps:List Pr}{p:Pr}(r:ps[k]?=some p)(h:jx p.name=false\/kV p.val=false\/∃j q,j<k/\ps[j]?=some q/\(q.name==p.name)=true):qct ps k=false:=by
 unfold qct;rw[r];simp only;rcases h with h|h|⟨j,q,s,o,e⟩
 ·rw[h];rfl
 ·rw[h,fj];rfl
 ·have:qg5 (ps.take k) p.name=true:=List.any_eq_true.2 ⟨q,ch (i:=j) (by rw[lz s];exact o),e⟩
  rw[this,ma,fj]
theorem qvf{ps:List Pr}{p:Pr}(u:ps[k]?=some p)(A:jx p.name=true)(z:kV p.val=true)(y:∀j q,j<k->ps[j]?=some q->(q.name==p.name)=false):qct ps k=true:=by
 unfold qct;rw[u];simp only
 have:qg5 (ps.take k) p.name=false:=by
  unfold qg5;rw[List.any_eq_false];intro q s;obtain⟨j,o⟩:=dy s;have r:=(au.1 o).1;rw[dh]at r;rw[lz mw]at o;rw[y j q mw o];decide
 rw[A,z,this];rfl
theorem qkt(a:Option Addr)(n cap:Nat)(j:8<n)(w:World):nz 85 #[.slice a n cap] w λe w'=>e=.returned (.bool false)/\Xb w w':=by
 have o:(8:Int)<(n:Int):=mw;go_enter func85,ntmps85
 go_wp2_with fail
 go_ret;exact⟨rfl,nw⟩
theorem qw9(b off cap:Nat)(ps:List Pr)(w:World)(h8:ps.length<=8)(Z5:qsh ps)(hw:EvAt w b off ps)(Z:b<w.heap.size):
  nz 85 #[.slice (some ⟨b,off,none⟩) ps.length cap] w λe w'=>e=.returned (.bool (xK ps))/\Xb w w':=by
 obtain⟨n,O⟩:∃n,ps.length=n:=⟨_,rfl⟩;obtain⟨E,P⟩:∃E,xK ps=E:=⟨_,rfl⟩;rw[P,O];have s:Hid (∀k,k<n->qct ps k=false->E=false):=qd λk hk h=>by rw[←P];exact va4 mw h
 have C:Hid ((∀j,j<n->qct ps j=true)->E=true):=qd λh=>by rw[←P];exact qgr h8 (λj D=>h j mw)
 have HW:=qd hw;have fV:=qd Z5;have HN:=qd O;rw[O]at h8;have QV:¬(8:Int)<(n:Int):=mw;clear hw Z5 P O;go_enter func85,ntmps85
 go_wp2_with fail
 go_loopw [3] (λi wr=>∃k:Nat,k<=n/\i=.int .i64 k/\Hid (∀j,j<k->qct ps j=true)/\Hid (Xb w wr)) (λi _=>n - (intOf i).toNat)
 case atStart=>exact⟨0,bj _,rfl,qd (λj D=>absurd D mw),qd nw⟩
 case round=>
  obtain⟨k,hk,rfl,u,B⟩:=hrel
  by_cases U5:k<n
  ·obtain⟨p,M⟩:∃p,ps[k]?=some p:=⟨_,ag (by have:=q9 HN;omega)⟩
   have A:=(q9 HW).below B Z;obtain⟨c0,c1,c2,c3⟩:=A k p M;have F8:b<wr.heap.size:=bg Z B.size;have N5:(0:Int)<=(k:Int):=mw;have A5:(k:Int)<(n:Int):=mw;have G:=qd (qkz p.val (fV p (ch M)).2);have Q:Hid (∀w,nz 130 #[.string (BS p.name)] w λe w'=>e=.returned (.bool (jx p.name))/\Xb w w'):=qd λw=>qr5 (BS p.name) w
   obtain⟨nb,Y⟩:∃x,jx p.name=x:=⟨_,rfl⟩;obtain⟨vb,U⟩:∃x,kV p.val=x:=⟨_,rfl⟩;rw[Y]at Q;rw[U]at G;have YH:=qd Y;have YG:=qd U;have I:=qd M;simp only[vV]at G;clear M Y U A
   cases nb with
   | false=>
    have H:=q9 s k U5 (qf0 I (.inl YH));clear u s C
    go_wp2_with(first|(go_at_call 130;refine(Q _).mono ?_;rintro e w1⟨rfl,o⟩;obtain⟨hc,hf⟩:=qj o;have L:=qd (qf B o);have B9:=o.size;clear o)|(go_at_call 131;refine(G _).mono ?_;rintro e w2⟨rfl,y⟩;have K:=qd (qf L y);clear y))
    go_ret;exact⟨by rw[H];rfl,q9 K⟩
   | true=>
    cases vb with
    | false=>
     have H:=q9 s k U5 (qf0 I (.inr (.inl YG)));clear u s C
     go_wp2_with(first|(go_at_call 130;refine(Q _).mono ?_;rintro e w1⟨rfl,o⟩;obtain⟨hc,hf⟩:=qj o;have L:=qd (qf B o);have B9:=o.size;clear o)|(go_at_call 131;refine(G _).mono ?_;rintro e w2⟨rfl,y⟩;have K:=qd (qf L y);clear y))
     go_ret;exact⟨by rw[H];rfl,q9 K⟩
    | true=>
     go_wp2_with(first|(go_at_call 130;refine(Q _).mono ?_;rintro e w1⟨rfl,o⟩;obtain⟨hc,hf⟩:=qj o;have L:=qd (qf B o);have B9:=o.size;clear o)|(go_at_call 131;refine(G _).mono ?_;rintro e w2⟨rfl,y⟩;have K:=qd (qf L y);clear y))
     go_loopw [6] (λi wr=>∃m:Nat,m<=k/\i=.int .i64 m/\Hid (∀j q,j<m->ps[j]?=some q->(q.name==p.name)=false)/\Hid (Xb w wr)) (λi _=>k - (intOf i).toNat)
     case atStart=>exact⟨0,bj _,rfl,qd (λj q D=>absurd D mw),K⟩
     case round=>
      obtain⟨m,hm,rfl,J,R⟩:=hrel
      by_cases FQ:m<k
      ·obtain⟨q,z⟩:∃q,ps[m]?=some q:=⟨_,ag (by have:=q9 HN;omega)⟩
       have A:=(q9 HW).below R Z;obtain⟨d0,_,_,_⟩:=A m q z;obtain⟨e0,_,_,_⟩:=A k p I;have sB:(0:Int)<=(m:Int):=mw;have mB:(m:Int)<(k:Int):=mw;have oY:(m:Int)<(n:Int):=mw;have O9:((BS q.name).toList==(BS p.name).toList)=(q.name==p.name):=by rw[qM,qM]
       cases hx:(q.name==p.name) with
       | true=>
        rw[hx]at O9;have H:=q9 s k U5 (qf0 I (.inr (.inr ⟨m,q,FQ,z,hx⟩)));clear u s C A z hx J
        go_wp2_with fail
        go_quiet (fail)
        go_wp2_with fail
        go_ret;exact⟨by rw[H];rfl,dr R _⟩
       | false=>
        rw[hx]at O9
        have eF:Hid (∀j r,j<m+1->ps[j]?=some r->(r.name==p.name)=false):=qd λj r D F=>by
         by_cases hjm:j=m
         ·subst hjm;rw[z]at F;injection F with F;subst F;exact hx
         ·exact q9 J j r mw F
        clear u s C A z hx J
        go_wp2_with fail
        go_quiet (fail)
        go_wp2_with fail
        exact⟨⟨m+1,mw,rfl,eF,qd (dr R _)⟩,by simp[intOf];omega⟩
      ·have hmk':¬(m:Int)<(k:Int):=mw
       have J9:Hid (∀j,j<k+1->qct ps j=true):=qd λj D=>by
        by_cases hjk:j=k
        ·subst hjk;exact qvf I YH YG (λi q hi z=>q9 J i q mw z)
        ·exact q9 u j mw
       clear u s C J
       go_wp2_with fail
       exact⟨⟨k+1,mw,rfl,J9,R⟩,by simp[intOf];omega⟩
  ·have wS:k=n:=mw
   subst wS;have X:=q9 C u;clear u s C
   go_wp2_with fail
   go_ret;exact⟨by rw[X];rfl,q9 B⟩
end
section
theorem qi3(a:Option Addr)(cap:Nat)(ps:List Pr)(s:mu)(w:World)(H:ps.length<=1000)(B:∀(k:Nat) (p:Pr),ps[k]?=some p->∃b off,a=some ⟨b,off,none⟩/\b<w.heap.size/\EvAt w b off ps):
  nz 218 #[.slice a ps.length cap,.string s] w λe w'=>e=.returned (vV (xL ps s.data.toList))/\Xb w w':=by
 obtain⟨F,y⟩:∃f,xL ps s.data.toList=f:=⟨_,rfl⟩;obtain⟨n,u⟩:∃n,ps.length=n:=⟨_,rfl⟩;rw[y,u];have I:=qd y;have D:=qd u;have z:=qd B;rw[u]at H;clear y u B;go_enter func218,ntmps218
 go_wp2_with fail
 go_loop [5] (λi=>∃k:Nat,k<=n/\i=.int .i64 k/\Hid (F=xL (ps.drop k) s.data.toList)) (λi=>n - (intOf i).toNat)
 case atStart=>exact⟨0,bj _,rfl,qd (by rw[db,q9 I])⟩
 case round=>
  obtain⟨k,K,rfl,j⟩:=hrel
  by_cases I4:k<n
  ·obtain⟨p,q⟩:∃p,ps[k]?=some p:=⟨_,ag (by have:=q9 D;omega)⟩
   obtain⟨b,off,rfl,R,A⟩:=q9 z k p q;obtain⟨P,O,M,L⟩:=A k p q;have o:=qgu (n:=s.data.toList) q;have C:((BS p.name).toList==s.toList)=(p.name==s.data.toList):=by rw[qM,ei]
   have Q:(0:Int)<=(k:Int):=mw;have J:(k:Int)<(n:Int):=mw;have G:¬b=w.heap.size:=mw
   cases he:(p.name==s.data.toList) with
   | true=>
    rw[he,bh rfl]at o;rw[he]at C;have r:Hid (F=p.val):=qd (by rw[q9 j,o]);clear o q he j A z
    go_wp2_with fail
    refine nx ⟨?_, ?_⟩
    ·rw[q9 r];rfl
    ·repeat' (first|exact(nw).alloc nt _|refine Below.setCell ?_ mx _)
   | false=>
    rw[he,aj mx]at o;rw[he]at C;have r:Hid (F=xL (ps.drop (k+1)) s.data.toList):=qd (by rw[q9 j,o]);clear o q he j A z
    go_wp2_with fail
    go_round
    case rel=>exact⟨k+1,mw,by go_num,r⟩
    case measure=>simp[intOf];omega
  ·have r:Hid (F=nV):=qd (by rw[q9 j,di (by have:=q9 D;omega)];rfl)
   have J:¬(k:Int)<(n:Int):=mw;clear j
   go_wp2_with fail
   refine nx ⟨?_, ?_⟩
   ·rw[q9 r];rfl
   ·repeat' (first|exact(nw).alloc nt _|refine Below.setCell ?_ mx _)
end
section
open Go.RowKit Go.Shelf Go.Proofs.Tryz
attribute [local go_sem] Oper.semAt_some
def pF(ts:List (List UInt8))(k:Nat):List (List UInt8):=(List.range k).map λj=>ts[j]?.getD []
theorem qmg(ts:List mv)(k:Nat):pF ts (k+1)=pF ts k++[ts[k]?.getD []]:=by simp[pF,List.range_succ]
theorem pG(ts:List mv)(k:Nat):(pF ts k).length=k:=by simp[pF]
theorem qrx(ts:List mv):pF ts ts.length=ts:=by
 apply List.ext_getElem
 ·simp[pF]
 ·intro i j h
  simp[pF,h]
theorem qs4(n:Nat)(P:1<=n)(l D n₀ b cap:Nat)(ts:List mv)(M:ts.length<=1000)(F:b<n₀)(J B:List mv->World->Prop)
  (y:∀pre x W,J pre W->pre.length<ts.length->YieldAt Fence.wide (n - 1) prog l #[.string (BS x)] W λe W'=>
   (e=.returned (.bool true)/\J (pre++[x]) W'/\Below n₀ W W')\/(e=.returned (.bool false)/\B (pre++[x]) W'))
  (W:World) (r:Xc W D 0 (.slice (some ⟨b,0,none⟩) ts.length cap)) (u:∀j,j<ts.length->Xc W b j (.string (BS (ts[j]?.getD [])))) (H:J [] W) :
  CallsIn Fence.wide n prog 208 #[.func (.yield l) #[] #[],.pointer (some ⟨D,0,none⟩)] W λe W'=>(∃v,e=.returned v) /\
   ((∃ys,ys=ts/\J ys W')\/(∃pre,pre.length<=ts.length/\B pre W')):=by
 obtain⟨len,o⟩:∃len,ts.length=len:=⟨_,rfl⟩;rw[o]at M y r u;have C:=qd o;clear o;refine callsIn_of_wp func208 rfl trivial ?_ rfl;simp only[ntmps208,List.size_toArray,eh,eo,Nat.reduceAdd,Nat.reduceSub,Array.replicate_succ,Array.replicate_zero,List.push_toArray,List.append_toArray,ej,cm]
 gi_wp2
 gi_loopw [7] (λi wr=>∃k:Nat,k<=len/\i=.int .i64 k/\J (pF ts k) wr/\Below n₀ W wr)
  (λi _=>len - (intOf i).toNat)
 case atStart=>exact⟨0,bj _,rfl,H,nw⟩
 case round=>
  obtain⟨k,Q,rfl,A,z⟩:=hrel;have I:k<len->Xc wr b k (.string (BS (ts[k]?.getD []))):=λh=>(z.cell (p:=⟨b,k,none⟩) F).trans (u k h)
  by_cases A0:k<len
  ·obtain⟨R,tmps,assign,body,O,G⟩:=y _ (ts[k]?.getD []) wr A (by rw[pG];exact A0)
   have s:=I A0
   gi_wp2
   refine G.mono ?_;rintro e W3 (⟨rfl,q,L⟩|⟨rfl,K⟩)
   ·gi_wp2
    go_roundw
    case rel=>exact⟨k+1,mw,mx,by rw[qmg];exact q,z.trans L⟩
    case measure=>simp[intOf];omega
   ·gi_wp2
    refine ak (results_none rfl _ _ _) rfl ?_;exact⟨⟨_,rfl⟩,.inr ⟨_,by rw[bu,pG,q9 C];simp;omega,K⟩⟩
  ·obtain rfl:k=len:=mw
   gi_wp2
   go_end0
   exact⟨⟨_,rfl⟩,.inl ⟨_,by rw[←q9 C,qrx],A⟩⟩
theorem qin(n:Nat)(o:1<=n)(h n₀ b cap:Nat)(ts:List mv)(F:ts.length<=1000)(r:b<n₀)(w:World)(q:h<w.heap.size)(o₀:n₀<=w.heap.size)
  (z:Xc w h 0 (.slice (some ⟨b,0,none⟩) ts.length cap)) (C:∀j,j<ts.length->Xc w b j (.string (BS (ts[j]?.getD [])))) :
  SeqStopsK Fence.wide n prog 208 #[.pointer (some ⟨h,0,none⟩)] (λx:mv=>#[Value.string (BS x)]) (Below n₀) (λu=>u=ts) (λpre=>pre.length<=ts.length) ts.length w:=λl J D W s _ _ A B=>
 qs4 n o l h n₀ b cap ts F r J D A W ((s.cell (p:=⟨h,0,none⟩) q).trans z) (λj y=>((s.mono o₀).cell (p:=⟨b,j,none⟩) r).trans (C j y)) B
theorem qu8:(prog.info? 9).map (λi=>(i.zero,i.size,i.bytes))=some (some (.string ⟨#[]⟩),1,16):=nl
theorem qgc(n:Nat)(hn:2<=n)(o b cap:Nat)(ts:List mv)(Z:ts.length<=1000)(w:World)(C:b<w.heap.size)(z:o<w.heap.size)
  (y:Xc w o 0 (.slice (some ⟨b,0,none⟩) ts.length cap)) (R:∀j,j<ts.length->Xc w b j (.string (BS (ts[j]?.getD [])))) :
  CallsIn Fence.wide n prog 251 #[.slice none 0 0,.func (.func 208) #[] #[.pointer (some ⟨o,0,none⟩)]] w λe w'=>∃v,e=.returned v/\w'.ownsRow w.heap.size 9 1 v ts.length (ts.map λx=>.string (BS x))/\Xb w w':=by
 have P:1<=n:=mw;obtain⟨I,M,U,Y,X⟩:=info_parts qu8;refine callsIn_of_wp_marks func251 rfl trivial ?_ rfl;simp only[ntmps251,List.size_toArray,eh,eo,Nat.reduceAdd,Nat.reduceSub,Array.replicate_succ,Array.replicate_zero,List.push_toArray,List.append_toArray,ej,cm]
 gi_wp2
 have Q:=Boxed.new w 62 (.slice none 0 0);have A:Xb w (w.alloc (.cells #[.slice none 0 0] 62)):=(Below.refl _ w).alloc nt _;refine wpIn_rangeFunc_ownG rfl P (gf:=208) (lb:=#[.pointer (some ⟨o,0,none⟩)]) rfl trivial (enters_of func208 nl rfl)
  (qin (n - 1) mw o w.heap.size b cap ts Z C (w.alloc (.cells #[.slice none 0 0] 62)) my mx ((A.cell (p:=⟨o,0,none⟩) z).trans y) (λj L=>(A.cell (p:=⟨b,j,none⟩) C).trans (R j L))) belowK_t (belowK_b mx) nw (λ_=>rfl)
  (λ(pre:List mv) W=>(∃v,Boxed W w.heap.size 62 v/\W.ownsRow w.heap.size 9 1 v pre.length (pre.map λx=>.string (BS x))/\True)/\Xb w W)
  (λ_ _ _=>False)
  (OwnFrom.and (Own.from (holdsRow_own w.heap.size w.heap.size 62 9 1 (λ(pre:List mv)=>pre.length) (λ(pre:List mv)=>pre.map λx=>Value.string (BS x)) (λ_ _=>True)) _) (ownFrom_below nt mx))
  (λ_ _ _ _ _ J _ _=>J)
  ⟨⟨_,Q,ed _ _ _ _,trivial⟩,A⟩
  (λx=>{ tmps:=#[.slice none 0 0,.func (.func 208) #[] #[.pointer (some ⟨o,0,none⟩)],.pointer (some ⟨w.heap.size,0,none⟩),undef,.slice none 0 0,.string (BS x),.func (.func 208) #[] #[.pointer (some ⟨o,0,none⟩)],.string (BS x),undef,undef,undef,undef,undef],defers:=[] }) ?assign ?body ?done ?stop
 case assign=>
  intro l x W K q
  gi_wp2
  exact q
 case body=>
  rintro l pre x W⟨⟨v,s,u,_⟩,r⟩ A0;have y:=s.cell
  gi_wp2_with (gi_at_builtin;refine wpListIn_append_own _ rfl _ _ 62 rfl w.heap.size 9 I (.string ⟨#[]⟩) 1 16 underlying62 M U Y X rfl nh _ _ _ rfl (u.alloc _) ⟨W.heap.size,0,none⟩ 1 1 [.string (BS x)] rfl rfl (cell_one_new _ _ _) (by simp[Value.oneCell']) (by unfold maxLen;omega) mw (by have:=r.size;simp;omega) ?_;intro v' w1 F A4 _;obtain⟨g',cap',rfl⟩:=ownsRow_succ F;obtain⟨B,H,A9,A7,G⟩:=s.appended nh u r.size nt F A4;have D5:=B.cell;have F6:=B.frozen)
  exact⟨A7.from _,G,⟨_,H,by simpa using A9,trivial⟩,r.trans G⟩
 case done=>
  rintro D ys W O rfl⟨⟨v,s,u,_⟩,r⟩ q;have y:=s.cell
  gi_wp2
  refine⟨mx,.inl ⟨_,_,rfl,run_takeDeferred q, ?_⟩⟩;exact⟨_,results_tmp rfl _ _ _,v,rfl,ownsRow_putObj u _ q rfl,r.trans (belowK_b (w:=w) nt W D _ _ (by simp at O;omega) q rfl rfl)⟩
 case stop=>
  rintro D c pre W _ _ h _;exact h.elim
end
end Go.Proofs.YtfkcaldjphakpaaGreatDoor
