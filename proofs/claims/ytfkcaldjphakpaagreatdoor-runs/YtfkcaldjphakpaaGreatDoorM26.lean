/- NewMaker, Terms -/
import Derived.Test.YtfkcaldjphakpaaGreatDoorM24
import Derived.Test.YtfkcaldjphakpaaGreatDoorM19
import Derived.Test.YtfkcaldjphakpaaGreatDoorM04
set_option maxHeartbeats 16000000
set_option maxRecDepth 100000
namespace Go.Proofs.YtfkcaldjphakpaaGreatDoor
open Go.RowKit Go.Proofs.Tryz
variable{a:Addr}{p:CP}{x:Co}{n op:Int}{rs:List Nat}{ps:List Pr}{L:List Tk}{O8 ts:List Tm}{l r:mv}{B E b base lo mb mp tb:Nat}{c:Option Co}{t:Tm}{y:V}{Z3 rv rv' tv tv' v v0 v1 v2 v3 v4 v5 vx vy:Value}{U W W' w w' w2:World}
section
theorem qhb(w:World):nz 68 #[] w λe w'=>e=.returned (.pointer (some ⟨w.heap.size+1,0,none⟩))/\MkAt w' (w.heap.size+1) w.heap.size [] [] (.slice none 0 0) (.slice none 0 0)/\Xb w w':=by
 have i:=@run_makeMap prog;go_enter func68,ntmps68
 go_wp2_with fail
 go_ret;refine⟨rfl,⟨by simp[go_sem],by simp[go_sem],by simp[go_sem],λj=>by simp[go_sem],mw,mx,TsAt.nil _ _,IsAt.nil _ _,λg f=>by simp[Value.ownBlock]at f,.map [],(World.ownsMap_made w _ _ _).alloc _,MapIs.empty⟩,(nw.alloc nt _).alloc mx _⟩
theorem qif(f o n:Nat)(a:Option Addr)(c:Nat)(w:World)(h:Xc w f o (.slice a n c)):nz 70 #[.pointer (some ⟨f,o,none⟩)] w λe w'=>e=.returned (.int .i64 n)/\w'=w:=by
 go_enter func70,ntmps70
 go_wp2_with fail
 go_ret;exact⟨rfl,rfl⟩
theorem qvo(mb:Nat)(w:World):nz 116 #[.pointer (some ⟨mb,0,none⟩),.pointer none] w λe w'=>e=.returned (.int .i64 0)/\w'=w:=by
 go_enter func116,ntmps116
 go_wp2_with fail
 go_ret;exact⟨rfl,rfl⟩
def SidAt(B E:Nat)(w:World)(v:Value):Option Co->Prop
 | none=>v=.pointer none
 | some c=>CoAt B E w v c
def vo(ts:List Tm):Option Co->List Tm×Nat
 | none=>(ts,0)
 | some c=>qA ts c
def qa4:Option Co->Nat
 | none=>0
 | some c=>kE c
theorem qdc(ts:List Tm)(c:Option Co):ts.length<=(vo ts c).1.length/\(vo ts c).1.length<=ts.length+qa4 c/\(vo ts c).2<=ts.length+qa4 c:=by
 cases c with
 | none=>exact⟨nt,nt,bj _⟩
 | some c=>
  have:=yq ts c;simp only[vo,qa4];omega
theorem SidAt.keep(h:SidAt B E w v c)(f:∀k,B<=k->k<E->w'.heap[k]?=w.heap[k]?)(e:w.heap.size<=w'.heap.size):SidAt B E w' v c:=by
 cases c with
 | none=>exact h
 | some c=>exact CoAt.keep nt f e h
def qsf(mb mp:Nat)(rs:List Nat)(tv rv:Value)(r:List Tm×Nat)(W:World)(e:Ending)(W':World):Prop:=∃tv',e=.returned (.int .i64 (r.2:Int))/\MkAt W' mb mp r.1 rs tv' rv/\MkKept mb mp tv rv tv' rv W W'
def qb3(c:Option Co):Prop:=∀(B E mb mp:Nat) (W:World) (v:Value) (ts:List Tm) (rs:List Nat) (tv rv:Value),MkAt W mb mp ts rs tv rv->SidAt B E W v c->E<=W.heap.size->Out B E mb mp tv rv->ts.length+qa4 c<=2500000000 ->
 Calls prog 116 #[.pointer (some ⟨mb,0,none⟩),v] W (qsf mb mp rs tv rv (vo ts c) W)
theorem gr:qb3 none:=by
 intro B E mb mp W v ts rs tv rv g f _ _ _;obtain rfl:v=.pointer none:=f;refine(qvo mb W).mono ?_;rintro e w'⟨rfl,rfl⟩;exact⟨tv,rfl,g,MkKept.refl _ _ _ _ _⟩
theorem Out.keep(h:Out B E mb mp tv rv)(f:MkKept mb mp tv rv tv' rv' W W')(g:E<=W.heap.size):∀k,B<=k->k<E->W'.heap[k]?=W.heap[k]?:=
 λk j i=>f.block k mw (λe=>by have:=h k e;omega)
end
section
theorem qyl(w:World):(zeroValue 3).run prog w=.ok (.int .i64 0) w:=nl
theorem MkAt.look_some(h:MkAt W mb mp ts rs tv rv)(f:HoldT t){i:Nat}(k:jn ts t=some i):
  (Instr.lookup 117 (.map (some mp)) (.agg #[.int .i64 t.op,.int .i64 t.left,.int .i64 t.right,.int .i64 t.num,.string (BS t.str),.string (BS t.esc)]) true).run prog W=.ok (.tuple #[.int .i64 i,.bool true]) W:=by
 obtain⟨D,u,o⟩:=h.map;obtain⟨v,ps,g,j⟩:=u.look_ok qcp underlying117 (qyl W) (plainElem_int underlying3 nh) (zt f);obtain⟨s,q⟩:=o.at' t f i k;obtain⟨c,rfl,m,_⟩:=plainElem_int_inv underlying3 j;have e:=congrArg Prod.fst m;rw[q]at e;simp at e;rw[s]at g;rw[e];exact g
theorem MkAt.look_none(h:MkAt W mb mp ts rs tv rv)(e:HoldT t)(i:jn ts t=none):
  ∃c,(Instr.lookup 117 (.map (some mp)) (.agg #[.int .i64 t.op,.int .i64 t.left,.int .i64 t.right,.int .i64 t.num,.string (BS t.str),.string (BS t.esc)]) true).run prog W=.ok (.tuple #[.int .i64 c,.bool false]) W:=by
 obtain⟨D,k,j⟩:=h.map;obtain⟨v,ps,f,g⟩:=k.look_ok qcp underlying117 (qyl W) (plainElem_int underlying3 nh) (zt e);obtain⟨c,rfl,_,_⟩:=plainElem_int_inv underlying3 g;rw[j.no t e i]at f;exact⟨c,f⟩
theorem MkAt.put(h:MkAt W mb mp ts rs tv rv)(s:HoldT t)(G:jn ts t=none)(hn:ts.length<=2500000000)(o:TmAt W tb t)(N:¬Own mb mp tv rv tb):
  ∃f,(Instr.mapUpdate 117 (.map (some mp)) (.agg #[.int .i64 t.op,.int .i64 t.left,.int .i64 t.right,.int .i64 t.num,.string (BS t.str),.string (BS t.esc)]) (.int .i64 ts.length)).run prog W=.ok () f /\
   Xc f mb 0 tv/\mb<f.heap.size/\Hid (TmAt f tb t) /\
   ∃g cap i,(ki #[114,114] 114 #[tv,.slice (some ⟨f.heap.size,0,none⟩) 1 1]).run prog (f.alloc (.cells #[.int .i64 t.op,.int .i64 t.left,.int .i64 t.right,.int .i64 t.num,.string (BS t.str),.string (BS t.esc)] 125)).drew=.ok (.slice (some ⟨g,0,none⟩) (ts.length+1) cap) i /\
    Xc i mb 0 tv/\(Xf i mb)/\mb<i.heap.size /\
    Hid (MkAt (i.setCell ⟨mb,0,none⟩ (.slice (some ⟨g,0,none⟩) (ts.length+1) cap)) mb mp (ts++[t]) rs (.slice (some ⟨g,0,none⟩) (ts.length+1) cap) rv) /\
    Hid (MkKept mb mp tv rv (.slice (some ⟨g,0,none⟩) (ts.length+1) cap) rv W (i.setCell ⟨mb,0,none⟩ (.slice (some ⟨g,0,none⟩) (ts.length+1) cap))):=by
 obtain⟨F,I,S,Y,T⟩:=info_parts qbk;obtain⟨D,Z,J⟩:=h.map;have cI:=h.lo;obtain⟨f,R,A,m⟩:=Z.update qcp underlying117 (by unfold maxLen;omega) (zt s) (plainElem_int underlying3 (vkj (n:=(ts.length:Int)) ⟨mw,mw⟩));obtain⟨c0,c1,c2,fz,ats,ars,z⟩:=h.row_other m;have Q:TmAt f tb t:=o.same (bg o.lt m.size) (m.block tb o.lt (by simp only[ne_eq,Option.some.injEq];exact λe=>N (.inr (.inl e))));obtain⟨g,cap,i,H,K,k,X,_⟩:=run_append_lies (P:=prog) (f.alloc (.cells #[.int .i64 t.op,.int .i64 t.left,.int .i64 t.right,.int .i64 t.num,.string (BS t.str),.string (BS t.esc)] 125)).drew 114 114 (mb+1) 125 F _ 6 64 underlying114 I S Y T rfl mw tv ts.length (zK ts) (World.ownsRow.alloc ats _)
  ⟨f.heap.size,0,none⟩ 1 1 (xH t) rfl (World.news_of_block (cs:=#[.int .i64 t.op,.int .i64 t.left,.int .i64 t.right,.int .i64 t.num,.string (BS t.str),.string (BS t.esc)]) (t:=125) (fr:=(0,0)) (heap_alloc_new f _)) (by simp[xH,Value.oneCell']) mw (by unfold maxLen;omega) mw my _ rfl
 have q:(f.alloc (.cells #[.int .i64 t.op,.int .i64 t.left,.int .i64 t.right,.int .i64 t.num,.string (BS t.str),.string (BS t.esc)] 125)).grownBy i tv.ownBlock:=⟨k.os,k.tape,k.output,k.size,k.block⟩;obtain⟨O,M⟩:=h.add s G J A m K q X rfl;have u:i.heap[mb]?=f.heap[mb]?:=(q.block mb my (λe=>by have:=(ats.lt mb e.symm).1;omega)).trans (iq f _ mb z);have C:=q.size;refine⟨f,R,c0,z,qd Q,g,cap,i,H, ?_,λj=>?_, ?_,qd O,qd M⟩
 ·exact(aw (w:=f) (w':=i) (a:=⟨mb,0,none⟩) u).trans c0
 ·exact(cf (w:=f) (w':=i) (a:=⟨mb,j,none⟩) u).trans (fz j)
 ·simp at C
  omega
def CS(b:Nat)(p:CP)(vx vy:Value)(w':World):Prop:=w'.cell? ⟨b,0,none⟩=some (.int .i64 p.op)/\w'.cell? ⟨b,1,none⟩=some vx/\w'.cell? ⟨b,2,none⟩=some vy/\w'.cell? ⟨b,3,none⟩=some (.int .i64 p.num)/\w'.cell? ⟨b,4,none⟩=some (.string (BS p.str))/\w'.cell? ⟨b,5,none⟩=some (.string (BS p.esc))
theorem CS.same(h:CS b p vx vy W)(f:W'.heap[b]?=W.heap[b]?):CS b p vx vy W':=by
 have e:∀j,W'.cell? ⟨b,j,none⟩=W.cell? ⟨b,j,none⟩:=λj=>aw (w:=W) (w':=W') (a:=⟨b,j,none⟩) f
 obtain⟨q,o,m,k,i,g⟩:=h;exact⟨(e _).trans q,(e _).trans o,(e _).trans m,(e _).trans k,(e _).trans i,(e _).trans g⟩
theorem CS.alloc(h:CS b p vx vy W)(e:b<W.heap.size)(o:Obj):CS b p vx vy (W.alloc o):=h.same (iq W o b e)
theorem CS.set6{R:Nat}(h:CS b p vx vy W)(e:b≠R):CS b p vx vy ((((((W.setCell ⟨R,0,none⟩ v0).setCell ⟨R,1,none⟩ v1).setCell ⟨R,2,none⟩ v2).setCell ⟨R,3,none⟩ v3).setCell ⟨R,4,none⟩ v4).setCell ⟨R,5,none⟩ v5):=
 (((((h.same (bo _ ⟨R,0,none⟩ v0 b e)).same (bo _ ⟨R,1,none⟩ v1 b e)).same (bo _ ⟨R,2,none⟩ v2 b e)).same (bo _ ⟨R,3,none⟩ v3 b e)).same (bo _ ⟨R,4,none⟩ v4 b e)).same (bo _ ⟨R,5,none⟩ v5 b e)
theorem CellsC.cs{l r:Value}{t:mv}(h:CellsC B E w b p l r t):CS b p l r w:=⟨h.c0,h.c1,h.c2,h.c3,h.c4,h.c5⟩
structure PlMid(W:World)(mb mp:Nat)(rs:List Nat)(tv rv:Value)(O8:List Tm)(Z3:Value)(tb:Nat)(t:Tm)(wx:World):Prop where
 mka:MkAt wx mb mp O8 rs Z3 rv
 kept:MkKept mb mp tv rv Z3 rv W wx
 tm:TmAt wx tb t
 no:¬Own mb mp Z3 rv tb
theorem MkKept.later(h:MkKept mb mp tv rv tv' rv' W W')(g:W.heap.size<=a.block)(u:Value):MkKept mb mp tv rv tv' rv' W (W'.setCell a u):=
 ⟨h.os,h.tape,h.output,by have:=h.size;simpa using this,λk f e=>(bo W' a u k mw).trans (h.block k f e),h.rows⟩
theorem MkAt.later(h:MkAt W mb mp ts rs tv rv)(g:¬Own mb mp tv rv a.block)(u:Value):MkAt (W.setCell a u) mb mp ts rs tv rv:=
 h.same mx λk f=>bo W a u k (λe=>g (e ▸ f))
theorem PlMid.set{g:Tm}(i:MkAt w2 mb mp O8 rs Z3 rv)(j:MkKept mb mp tv rv Z3 rv W w2)(h:TmAt w2 tb g)(e:¬Own mb mp Z3 rv tb)(f:W.heap.size<=tb)
   (u:v0=.int .i64 t.op) (s:v1=.int .i64 t.left) (q:v2=.int .i64 t.right) (o:v3=.int .i64 t.num) (m:v4=.string (BS t.str)) (k:v5=.string (BS t.esc)) :
  PlMid W mb mp rs tv rv O8 Z3 tb t ((((((w2.setCell ⟨tb,0,none⟩ v0).setCell ⟨tb,1,none⟩ v1).setCell ⟨tb,2,none⟩ v2).setCell ⟨tb,3,none⟩ v3).setCell ⟨tb,4,none⟩ v4).setCell ⟨tb,5,none⟩ v5):=
 ⟨(((((i.later e _).later e _).later e _).later e _).later e _).later e _,(((((j.later f _).later f _).later f _).later f _).later f _).later f _,h.full t u s q o m k,e⟩
theorem PlMid.alloc(e:MkAt w2 mb mp O8 rs Z3 rv)(g:MkKept mb mp tv rv Z3 rv W w2)
   (s:v0=.int .i64 t.op) (q:v1=.int .i64 t.left) (o:v2=.int .i64 t.right) (m:v3=.int .i64 t.num) (k:v4=.string (BS t.str)) (i:v5=.string (BS t.esc)) (ty:TypeId) :
  PlMid W mb mp rs tv rv O8 Z3 w2.heap.size t (w2.alloc (.cells #[v0,v1,v2,v3,v4,v5] ty)):=by
 subst s q o m k i;refine⟨e.below (nw.alloc nt _),g.trans (MkKept.of_below (nw.alloc nt _)), ?_,λf=>by have:=e.own_lt f;omega⟩;refine⟨mx, ?_, ?_, ?_, ?_, ?_, ?_,λj=>?_⟩<;>simp[go_sem]
end
section
attribute [local go_sem ↓] jt
def NewOk(mb mp:Nat)(tv' rv:Value)(lo:Nat)(U w':World):Prop:=U.heap.size<=w'.heap.size/\∀k,lo<=k->k<U.heap.size->¬Own mb mp tv' rv k/\w'.heap[k]?=U.heap[k]?
theorem NewOk.tm(h:NewOk mb mp tv' rv lo U w')(e:TmAt U lo t):TmAt w' lo t/\¬Own mb mp tv' rv lo:=
 ⟨e.same (bg e.lt h.1) (h.2 lo nt e.lt).2,(h.2 lo nt e.lt).1⟩
theorem NewOk.cell(h:NewOk mb mp tv' rv lo U w')(j:Nat)(e:lo<U.heap.size):w'.cell? ⟨lo,j,none⟩=U.cell? ⟨lo,j,none⟩:=aw (w:=U) (w':=w') (a:=⟨lo,j,none⟩) (h.2 lo nt e).2
theorem NewOk.frozen(h:NewOk mb mp tv' rv lo U w')(j:Nat)(e:lo<U.heap.size):w'.frozen? ⟨lo,j,none⟩=U.frozen? ⟨lo,j,none⟩:=cf (w:=U) (w':=w') (a:=⟨lo,j,none⟩) (h.2 lo nt e).2
theorem NewOk.next{g:Value}{f:World}(h:NewOk mb mp g rv lo U f)(e:MkKept mb mp g rv Z3 rv f w2):NewOk mb mp Z3 rv lo U w2:=by
 have:=h.1;refine⟨bs h.1 e.size,λk q o=>?_⟩;obtain⟨i,m⟩:=h.2 k q o;exact⟨λj=>i (e.rows k mw j),(e.block k mw i).trans m⟩
theorem qdn(z:qb3 c)(j:MkAt W mb mp ts rs tv rv)(q:SidAt B E W v c)(C:E<=W.heap.size)(s:Out B E mb mp tv rv)(u:ts.length+qa4 c<=2500000000)(f:Xb W U):
  nz 116 #[.pointer (some ⟨mb,0,none⟩),v] U λe w'=>∃tv',e=.returned (.int .i64 ((vo ts c).2:Int))/\MkAt w' mb mp (vo ts c).1 rs tv' rv/\MkKept mb mp tv rv tv' rv W w'/\NewOk mb mp tv' rv W.heap.size U w':=by
 have o:=f.size;refine(z B E mb mp U v ts rs tv rv (j.below f) (q.keep (λk _ i=>f.block k mw) o) mw s u).mono ?_;rintro e w'⟨tv',rfl,A,g⟩;refine⟨tv',rfl,A,(MkKept.of_below f).trans g,g.size,λk D i=>?_⟩;have m:¬Own mb mp tv rv k:=λh=>by have:=j.own_lt h;omega
 exact⟨λh=>m (g.rows k i h),g.block k i m⟩
theorem TsAt.form(h:TsAt w base v ts):∃a c,v=.slice a ts.length c:=by
 rcases h.2 with⟨rfl,e⟩|⟨g,cap,cur,rfl,_⟩
 ·exact⟨none,0,by rw[e]⟩
 ·exact⟨_,_,rfl⟩
theorem TmAt.drew(h:TmAt w b t):TmAt w.drew b t:=h.same h.lt rfl
theorem pZ(p:CP)(x y:Option Co)(hx:qb3 x)(hy:qb3 y)(Y:GoodP p)(B E mb mp b:Nat)(W:World)(vx vy:Value)(tx:mv)(ts:List Tm)(rs:List Nat)(tv rv:Value)(Z:MkAt W mb mp ts rs tv rv)
  (m:CellsC B E W b p vx vy tx) (sx:SidAt B E W vx x) (sy:SidAt B E W vy y) (F:E<=W.heap.size) (u:Out B E mb mp tv rv) (hn:ts.length+qa4 x+qa4 y+1<=2500000000)
  (Q:Ending->World->Prop) (hQ:∀e w',qsf mb mp rs tv rv (gZ (vo (vo ts x).1 y).1 (zg p (vo ts x).2 (vo (vo ts x).1 y).2)) W e w'->Q e w') :
  nz 116 #[.pointer (some ⟨mb,0,none⟩),.pointer (some ⟨b,0,none⟩)] W Q:=by
 have q:=qd hQ;clear hQ;have l1:=qdc ts x;have l2:=qdc (vo ts x).1 y;have PX:Hid (∀U,Xb W U->nz 116 #[.pointer (some ⟨mb,0,none⟩),vx] U λe w'=>∃tv',e=.returned (.int .i64 ((vo ts x).2:Int))/\MkAt w' mb mp (vo ts x).1 rs tv' rv/\MkKept mb mp tv rv tv' rv W w'/\NewOk mb mp tv' rv W.heap.size U w'):=qd λU hU=>qdn hx Z sx F u mw hU
 have PY:Hid (∀f k,MkAt f mb mp (vo ts x).1 rs k rv->MkKept mb mp tv rv k rv W f->∀U,Xb f U->nz 116 #[.pointer (some ⟨mb,0,none⟩),vy] U λe w'=>∃tv',e=.returned (.int .i64 ((vo (vo ts x).1 y).2:Int))/\MkAt w' mb mp (vo (vo ts x).1 y).1 rs tv' rv/\MkKept mb mp k rv tv' rv f w'/\NewOk mb mp tv' rv f.heap.size U w'):=
  qd λf k h1 G U hU=>qdn hy h1 (sy.keep (u.keep G F) G.size) (bs F G.size) (u.next G F) mw hU
 have YC:CS b p vx vy W.drew:=m.cs;have csA:CS b p vx vy (W.alloc (.cells #[.int .i64 0,.int .i64 0,.int .i64 0,.int .i64 0,.string ⟨#[]⟩,.string ⟨#[]⟩] 125)).drew:=CS.alloc m.cs m.within _;have B0:Xb W W.drew:=nw.drew;have BA:Xb W (W.alloc (.cells #[.int .i64 0,.int .i64 0,.int .i64 0,.int .i64 0,.string ⟨#[]⟩,.string ⟨#[]⟩] 125)).drew:=(nw.alloc nt _).drew;unfold CS at YC csA;have CK:Hid (∀f k,MkKept mb mp tv rv k rv W f->CS b p vx vy f):=qd λf k hk=>m.cs.same (hk.block b m.within (λh=>by have:=u b h;have:=m.lo;have:=m.hi;omega))
 have K6:=m.within;have F1:=Y.op;have H:Hid (HoldT (zg p (vo ts x).2 (vo (vo ts x).1 y).2)):=qd (qxw Y mw mw);have uI:(vo (vo ts x).1 y).1.length<=2500000000:=mw;have HM:=qd Z;obtain⟨T,o⟩:∃T,zg p (vo ts x).2 (vo (vo ts x).1 y).2=T:=⟨_,rfl⟩;have e0:Value.int .i64 p.op=.int .i64 (T.op:Int):=by rw[←o];show _=Value.int .i64 ((p.op.toNat:Nat):Int);rw[Int.toNat_of_nonneg F1.1]
 have e1:Value.int .i64 ((vo ts x).2:Int)=.int .i64 (T.left:Int):=by rw[←o];rfl
 have e2:Value.int .i64 ((vo (vo ts x).1 y).2:Int)=.int .i64 (T.right:Int):=by rw[←o];rfl
 have e3:Value.int .i64 p.num=.int .i64 T.num:=by rw[←o];rfl
 have e4:Value.string (BS p.str)=.string (BS T.str):=by rw[←o];rfl
 have e5:Value.string (BS p.esc)=.string (BS T.esc):=by rw[←o];rfl
 have O:=qd e0;have C:=qd e1;have A:=qd e2;have N:=qd e3;have M:=qd e4;have K:=qd e5;rw[o]at H q;clear o e0 e1 e2 e3 e4 e5 hx hy Y Z m sx sy l1 l2 u;generalize vo (vo ts x).1 y=r2 at *;generalize vo ts x=r1 at *;obtain⟨O8,S⟩:=r2;obtain⟨V1,X⟩:=r1;simp only at PX PY C A uI q;go_enter func116,ntmps116
 go_wp2_with fail
 go_cut [5] (λs5 wx=>∃(tb:Nat) (Z3:Value),s5=.pointer (some ⟨tb,0,none⟩)/\Hid (PlMid W mb mp rs tv rv O8 Z3 tb T wx))
 case first=>
  go_region_held3 (λw'=>Xc w' b 0 (.int .i64 p.op)/\Xc w' b 1 vx/\Xc w' b 2 vy/\Xc w' b 3 (.int .i64 p.num)/\Xc w' b 4 (.string (BS p.str))/\Xc w' b 5 (.string (BS p.esc)))
   (with_reducible assumption)
   (first|(go_at_call 116;refine(PY f k M1 K1 _ (by with_reducible assumption)).mono ?_;rintro e w2⟨Z3,rfl,oY,P,J⟩;have M2:=qd oY;have I:=qd (K1.trans P);have z:=q9 CK w2 Z3 I;have z2:=P.size;have cs2:=z;have cs2a:=CS.alloc z mw (.cells #[.int .i64 0,.int .i64 0,.int .i64 0,.int .i64 0,.string ⟨#[]⟩,.string ⟨#[]⟩] 125);have cs2b:=CS.alloc z mw (.cells #[.int .i64 p.op,.int .i64 X,.int .i64 S,.int .i64 p.num,.string (BS p.str),.string (BS p.esc)] 125);have cs2s:CS b p vx vy ((((((w2.setCell ⟨W.heap.size,0,none⟩ (.int .i64 p.op)).setCell ⟨W.heap.size,1,none⟩ (.int .i64 X)).setCell ⟨W.heap.size,2,none⟩ (.int .i64 S)).setCell ⟨W.heap.size,3,none⟩ (.int .i64 p.num)).setCell ⟨W.heap.size,4,none⟩ (.string (BS p.str))).setCell ⟨W.heap.size,5,none⟩ (.string (BS p.esc))):=CS.set6 z mw;have cs2t:CS b p vx vy ((((((w2.setCell ⟨f.heap.size,0,none⟩ (.int .i64 p.op)).setCell ⟨f.heap.size,1,none⟩ (.int .i64 X)).setCell ⟨f.heap.size,2,none⟩ (.int .i64 S)).setCell ⟨f.heap.size,3,none⟩ (.int .i64 p.num)).setCell ⟨f.heap.size,4,none⟩ (.string (BS p.str))).setCell ⟨f.heap.size,5,none⟩ (.string (BS p.esc))):=CS.set6 z mw;unfold CS at cs2 cs2a cs2b cs2s cs2t;have MO:=qd J;have D:=qd (HN1.next P);have b2:=J.cell;have f2:=J.frozen;have a2:=(q9 D).cell;have g2:=(q9 D).frozen;clear oY P J)|(go_at_call 116;refine(PX _ (by with_reducible assumption)).mono ?_;rintro e f⟨k,rfl,mB,R,U4⟩;have M1:=qd mB;have K1:=qd R;have z1:=R.size;have YB:=q9 CK f k R;have cs1a:=CS.alloc YB mw (.cells #[.int .i64 0,.int .i64 0,.int .i64 0,.int .i64 0,.string ⟨#[]⟩,.string ⟨#[]⟩] 125);unfold CS at YB cs1a;have B1:=Below.refl f.heap.size f;have B1A:=(Below.refl f.heap.size f).alloc nt (.cells #[.int .i64 0,.int .i64 0,.int .i64 0,.int .i64 0,.string ⟨#[]⟩,.string ⟨#[]⟩] 125);have HN1:=qd U4;clear mB R U4))
  ·go_wp2_with fail
   go_meet
   exact⟨w2.heap.size,Z3,rfl,qd (PlMid.alloc M2 I O C A N M K _)⟩
  ·go_wp2_with fail
   go_meet
   exact⟨f.heap.size,Z3,rfl,qd (PlMid.set M2 I (MO.tm (TmAt.new f 0 _)).1 (MO.tm (TmAt.new f 0 _)).2 z1 O C A N M K)⟩
  ·go_wp2_with fail
   go_meet
   exact⟨W.heap.size,Z3,rfl,qd (PlMid.set M2 I (D.tm (TmAt.new W 0 _).drew).1 (D.tm (TmAt.new W 0 _).drew).2 nt O C A N M K)⟩
 case rest=>
  obtain⟨tb,Z3,rfl,j⟩:=hcut;clear PX PY CK YC csA B0 BA O C A N M K HM;obtain⟨ta,tc,rfl⟩:=(q9 j).mka.ats.form;obtain⟨tl,t0,t1,t2,t3,t4,t5,tf⟩:=(q9 j).tm;have c0:=(q9 j).mka.c0;have c2:=(q9 j).mka.c2;have NI:=(q9 j).mka.lt
  cases hw:jn O8 T with
  | some i=>
   have bT:=(q9 j).mka.drew.look_some H hw;have s:gZ O8 T=(O8,i):=by rw[gZ,hw]
   rw[s]at q;clear s hw
   go_wp2_with fail
   go_region
   all_goals go_wp2_with fail
   all_goals exact q9 q _ _ ⟨_,rfl,j.mka.drew,j.kept.trans (MkKept.of_below nw.drew)⟩
  | none=>
   obtain⟨c,bT⟩:=(q9 j).mka.drew.look_none H hw;have s:gZ O8 T=(O8++[T],O8.length):=by rw[gZ,hw]
   rw[s]at q;obtain⟨W1,hupd,d0,EJ,BF,g,cap,w5,R9,c5,f5,uX,mG,Z0⟩:=(q9 j).mka.drew.drew.put H hw uI j.tm.drew.drew j.no;obtain⟨ul,u0,u1,u2,u3,u4,u5,uf⟩:=q9 BF;clear s hw
   go_wp2_with fail
   go_region
   all_goals go_wp2_with fail
   all_goals go_region
   all_goals go_wp2_with fail
   all_goals go_region
   all_goals go_wp2_with fail
   all_goals exact q9 q _ _ ⟨_,rfl,q9 mG,(j.kept.trans (MkKept.of_below nw.drew.drew)).trans Z0⟩
end
section
attribute [local go_sem ↓] jt
def qb4(t:Tm):Prop:=∀(base:Nat) (v:Value) (l:List UInt8) (W:World),OB W base v l->base<=W.heap.size->l.length<=800000->Calls prog 117 #[tmV t,v] W (xN base W (l++encT t))
theorem qg1(t:Tm)(e:SmallT t)(h:t.op∈[0,1,2,3,4,5,6,7,8,10,11,16,17,18,19,23]):qb4 t:=by
 intro base v l W i g f;simp only[eg,fl,or_false]at h;rcases h with h|h|h|h|h|h|h|h|h|h|h|h|h|h|h|h
 ·exact vii base v l t W i g f e h _ λ_ _ h=>h
 ·exact vij base v l t W i g f e h _ λ_ _ h=>h
 ·exact vik base v l t W i g f e h _ λ_ _ h=>h
 ·exact qyj base v l t W i g f e (by simp[h]) _ λ_ _ h=>h
 ·exact qyj base v l t W i g f e (by simp[h]) _ λ_ _ h=>h
 ·exact vil base v l t W i g f e h _ λ_ _ h=>h
 ·exact yW base v l t W i g f e (by simp[h]) _ λ_ _ h=>h
 ·exact yW base v l t W i g f e (by simp[h]) _ λ_ _ h=>h
 ·exact yW base v l t W i g f e (by simp[h]) _ λ_ _ h=>h
 ·exact yW base v l t W i g f e (by simp[h]) _ λ_ _ h=>h
 ·exact yW base v l t W i g f e (by simp[h]) _ λ_ _ h=>h
 ·exact yW base v l t W i g f e (by simp[h]) _ λ_ _ h=>h
 ·exact yW base v l t W i g f e (by simp[h]) _ λ_ _ h=>h
 ·exact yW base v l t W i g f e (by simp[h]) _ λ_ _ h=>h
 ·exact yW base v l t W i g f e (by simp[h]) _ λ_ _ h=>h
 ·exact vdn base v l t W i g f e h _ λ_ _ h=>h
def qd8(hd:List UInt8)(ts:List Tm):Nat->List UInt8
 | 0=>hd
 | k+1=>qd8 hd ts k++encT (ts.getD k (.bare 3))
def qjr(hd:List UInt8)(rs:List Nat):Nat->List UInt8
 | 0=>hd
 | k+1=>qjr hd rs k++[UInt8.ofNat (rs.getD k 0)]
def jV(ts:List Tm)(rs:List Nat):List UInt8:=qjr (qd8 [UInt8.ofNat ts.length,UInt8.ofNat rs.length] ts ts.length) rs rs.length
theorem yI(s:mv):(qaa s).length=s.length+1:=rfl
theorem qjt(t:Tm)(e:SmallT t):(encT t).length<=1000:=by
 have g:=e.str;have f:=e.esc;unfold encT
 split
 ·simp[j3]
 split
 ·simp[yI];omega
 split
 ·simp[yI];omega
 split
 ·simp
 split<;>simp
theorem qjq(hd:mv)(ts:List Tm)(h:∀t∈ts,SmallT t)(k:Nat):(qd8 hd ts k).length<=hd.length+k * 1000:=by
 induction k with
 | zero=>simp[qd8]
 | succ k ih=>
  rw[qd8,bu]
  have:(encT (ts.getD k (.bare 3))).length<=1000:=by
   apply qjt;rw[aq]
   cases hk:ts[k]? with
   | none=>exact⟨bj _,bj _,bj _,bj _⟩
   | some t=>exact h t (ch hk)
  omega
theorem qjs(hd:mv)(rs:List Nat)(k:Nat):(qjr hd rs k).length=hd.length+k:=by
 induction k with
 | zero=>rfl
 | succ k ih=>rw[qjr,bu,ih,da];omega
theorem OB.below(h:OB w base v l)(e:Below B w w')(f:w.heap.size<=B):OB w' base v l:=qq h e f
theorem qqs(D o:Nat)(ts:List Tm)(rs:List Nat)(W:World)(hp:ProgAt W D o ts rs)(a7:ts.length<=200)(h8:rs.length<=200)(s:∀t∈ts,SmallT t)(hw:∀t∈ts,qb4 t)(CQ:∀r∈rs,r<=255)(Q:Ending->World->Prop)(hQ:∀e w',xN W.heap.size W (jV ts rs) e w'->Q e w'):
  nz 71 #[.pointer (some ⟨D,o,none⟩)] W Q:=by
 have O:=qd hQ;clear hQ;unfold jV at O;obtain⟨plt,⟨tv,tb,c0,cE⟩,rv,rb,c1,EY⟩:=hp;obtain⟨ta,tc,rfl,GW⟩:=cE.cells;obtain⟨ra,rc,rfl,GY⟩:=EY.cells;have SB:Hid _:=qd GW;have cY:Hid _:=qd GY;have HW:=qd hw;have YU:=qd CQ;have aQ:Hid _:=qd (qjq [UInt8.ofNat ts.length,UInt8.ofNat rs.length] ts s);clear GW GY cE EY hw CQ s;obtain⟨n,H⟩:∃n,n=ts.length:=⟨_,rfl⟩;obtain⟨m,I⟩:∃m,m=rs.length:=⟨_,rfl⟩;have HN:=qd H;have HM:=qd I;rw[←H]at c0 a7;rw[←I]at c1 h8;rw[←H,←I]at O aQ;clear H I;have n0:(0:Int)<=(n:Int):=mw;have n1:(n:Int)<256:=mw;have m0:(0:Int)<=(m:Int):=mw;have m1:(m:Int)<256:=mw
 have O0:Hid (OB (W.alloc (.cells #[.int .u8 n,.int .u8 m] 5)).drew W.heap.size (.slice (some ⟨W.heap.size,0,none⟩) 2 2) [UInt8.ofNat n,UInt8.ofNat m]):=qd (by
  refine⟨rfl,.inr ⟨W.heap.size,2,#[.int .u8 n,.int .u8 m],rfl,nt,heap_alloc_new W _,nt,nh,rfl, ?_⟩⟩;show[Value.int .u8 n,Value.int .u8 m]=[Value.int .u8 ((UInt8.ofNat n).toNat:Int),Value.int .u8 ((UInt8.ofNat m).toNat:Int)]
  rw[←qd3 mw,←qd3 mw])
 have B0:Hid (Xb W (W.alloc (.cells #[.int .u8 n,.int .u8 m] 5)).drew):=qd (nw.alloc nt _).drew;have P:Hid ([UInt8.ofNat n,UInt8.ofNat m].length=2):=qd rfl;generalize [UInt8.ofNat n,UInt8.ofNat m]=hd at *;go_enter func71,ntmps71
 go_wp2_with fail
 go_region
 all_goals go_wp2_with fail
 go_loopw [3,26] (λu i wr=>∃k:Nat,k<=n/\i=.int .i64 k/\Hid (OB wr W.heap.size u (qd8 hd ts k))/\Hid (Xb W wr)) (λ_ i _=>n - (intOf i).toNat)
 case atStart=>exact⟨0,bj _,rfl,O0,B0⟩
 case round=>
  obtain⟨k,hk,rfl,K,A⟩:=hrel;have B8:(qd8 hd ts k).length<=700000:=by have h1:=q9 aQ k;have h2:=q9 P;omega
  by_cases A0:k<n
  ·obtain⟨t,F⟩:∃t,ts[k]?=some t:=⟨_,ag (by have:=q9 HN;omega)⟩
   obtain⟨g,rfl,glt,q,Z,Y,X,T,S⟩:=q9 SB k t F;have WT:Hid (∀(u:Value) (U:World),OB U W.heap.size u (qd8 hd ts k)->W.heap.size<=U.heap.size->nz 117 #[tmV t,u] U (xN W.heap.size U (qd8 hd ts k++encT t))):=qd λu U h1 h2=>q9 HW t (ch F) _ u _ U h1 h2 mw
   have z:Hid (qd8 hd ts (k+1)=qd8 hd ts k++encT t):=qd (by rw[qd8,aq,F];rfl);obtain⟨L,hL⟩:∃L,qd8 hd ts k=L:=⟨_,rfl⟩;rw[hL]at K WT z B8;obtain⟨f,M⟩:=qj A;replace q:=(f g (k * 6) glt).trans q;replace Z:=(f g (k * 6+1) glt).trans Z;replace Y:=(f g (k * 6+2) glt).trans Y;replace X:=(f g (k * 6+3) glt).trans X;replace T:=(f g (k * 6+4) glt).trans T;replace S:=(f g (k * 6+5) glt).trans S;have R:=(q9 A).size;have NP:g<wr.heap.size:=mw;have N5:(0:Int)<=(k:Int):=mw;have A5:(k:Int)<(n:Int):=mw;have O1:=qd (λo=>World.ownsRow.alloc K o);obtain⟨a',c',rfl⟩:=(q9 K).form;unfold tmV at WT;clear f M F hL B8
   go_wp2_with(go_at_call 117;refine(WT _ _ (O1 _) my).mono ?_;rintro e w2⟨v2,rfl,M6,A3⟩;have aP:=qd M6;have F9:=qd ((A.alloc R _).trans A3);clear M6 A3)
   exact⟨⟨k+1,mw,rfl,qd (by rw[q9 z];exact q9 aP),F9⟩,by simp[intOf];omega⟩
  ·have:k=n:=mw
   subst this;have d1:Xc wr D (o+1) (.slice ra m rc):=(A.cell (p:=⟨D,o+1,none⟩) plt).trans c1;generalize qd8 hd ts k=L at *
   go_wp2_with fail
   go_loopw [3,39] (λu i wr=>∃j:Nat,j<=m/\i=.int .i64 j/\Hid (OB wr W.heap.size u (qjr L rs j))/\Hid (Xb W wr)) (λ_ i _=>m - (intOf i).toNat)
   case atStart=>exact⟨0,bj _,rfl,K,A⟩
   case round=>
    obtain⟨j,hj,rfl,J,C⟩:=hrel
    by_cases I4:j<m
    ·obtain⟨r,G⟩:∃r,rs[j]?=some r:=⟨_,ag (by have:=q9 HM;omega)⟩
     obtain⟨g,rfl,glt,q⟩:=q9 cY j r G;have FC:r<=255:=q9 YU r (ch G);have z:Hid (qjr L rs (j+1)=qjr L rs j++[UInt8.ofNat r]):=qd (by rw[qjr,aq,G];rfl);have N:(qjr L rs j).length<=1000000:=by rw[qjs];omega
     obtain⟨L2,DM⟩:∃L2,qjr L rs j=L2:=⟨_,rfl⟩;rw[DM]at J z N;obtain⟨f,M⟩:=qj C;replace q:=(f g j glt).trans q;have R:=(q9 C).size;have NP:g<wr.heap.size:=mw;have hj0:(0:Int)<=(j:Int):=mw;have hj1:(j:Int)<(m:Int):=mw;have b8:(0:Int)<=(r:Int):=mw;have A8:(r:Int)<256:=mw;obtain⟨g5,M9,w5,R9,oK,P6⟩:=OB.app J R (UInt8.ofNat r) (r:Int) (qd3 FC) N 51 _ rfl rfl;have cX:=qd (C.trans P6);obtain⟨a',c',rfl⟩:=OB.form J;clear f M G DM N P6
     go_wp2_with fail
     exact⟨⟨j+1,mw,rfl,qd (by rw[q9 z];exact q9 oK),cX⟩,by simp[intOf];omega⟩
    ·have:j=m:=mw
     subst this
     go_wp2_with fail
     exact q9 O _ _ ⟨_,rfl,q9 J,q9 C⟩
end
section
attribute [local go_sem ↓] jt
theorem qwn{size n:Nat}{e:TypeId}{xs:List Value}(h:w.ownsRow base e size v n xs):(v=.slice none 0 0/\n=0)\/∃g cap,v=.slice (some ⟨g,0,none⟩) n cap:=by
 rcases h.2 with⟨i,f⟩|⟨g,cap,cur,rfl,_⟩
 ·exact .inl ⟨i,f⟩
 ·exact .inr ⟨g,cap,rfl⟩
end
section
attribute [local go_sem ↓] jt
def vfm(ats:Array TypeId)(ty:TypeId)(args:Array Value):Sem Value:=Builtin.copy_ ats ty args
theorem qth(ats:Array TypeId)(ty:TypeId)(args:Array Value):Builtin.copy_ ats ty args=vfm ats ty args:=rfl
attribute [local go_sem ↓] qth
theorem qyv(g o j:Nat):(⟨g,o,none⟩:Addr).add j=⟨g,o+j,none⟩:=by unfold Addr.add;split<;>simp_all
end
section
def PV(v:V):Prop:=v=nV\/(∃b,v=bV b)\/(∃n,v=iV n)\/∃s,v=tV s
def BN(v:V):Prop:=v=nV\/∃b,v=bV b
theorem BN.pv{v:V}(h:BN v):PV v:=by rcases h with h|h;exact .inl h;exact .inr (.inl h)
theorem qe2(b:Bool):BN (bV b):=.inr ⟨b,rfl⟩
theorem jp{c:Prop}[Decidable c]{a b:V}(f:BN a)(e:BN b):BN (if c then a else b):=by split;exact f;exact e
theorem vL{c:Prop}[Decidable c]{a b:V}(f:PV a)(e:PV b):PV (if c then a else b):=by split;exact f;exact e
theorem qs8:BN nV:=.inl rfl
theorem vjz(n:Int):PV (iV n):=.inr (.inr (.inl ⟨n,rfl⟩))
theorem qmr(x:V):BN (xP x):=jp (qe2 _) qs8
theorem qmq(x y:V):BN (qg3 x y):=jp (qe2 _) (jp (qe2 _) qs8)
theorem qz5(x y:V):BN (orV x y):=jp (qe2 _) (jp (qe2 _) qs8)
theorem vfd(x y:V):BN (eqV x y):=jp qs8 (qe2 _)
theorem qb7(x y:V):BN (yo x y):=jp (qe2 _) qs8
theorem qz4(x y:V):BN (leV x y):=jp (qe2 _) qs8
theorem qsv(x:V)(p e:mv):BN (qai x p e):=jp (qe2 _) qs8
theorem qsu(x:V):∀(ts:List mv) (f:V),BN f->BN (ts.foldl (λf t=>orV f (eqV x (tV t))) f):=by
 intro ts
 induction ts with
 | nil=>intro f h;exact h
 | cons t r ih=>intro f _;exact ih _ (qz5 _ _)
theorem vhf(op:Int)(x y:V):PV (jF op x y):=by
 have a:∀u v,PV (qiq u v):=λu v=>vL (vjz _) qs8.pv
 have s:∀u v,PV (qrs u v):=λu v=>vL (vjz _) qs8.pv
 have m:∀u v,PV (qir u v):=λu v=>vL (vjz _) qs8.pv
 have d:∀u v,PV (qq0 u v):=λu v=>vL (vjz _) qs8.pv
 unfold jF;exact vL (qmr _).pv (vL (qmq _ _).pv (vL (qz5 _ _).pv (vL (vfd _ _).pv (vL (qmr _).pv (vL (qb7 _ _).pv (vL (qb7 _ _).pv (vL (qz4 _ _).pv (vL (qz4 _ _).pv (vL (a _ _) (vL (a _ _) (vL (s _ _) (vL (s _ _) (vL (m _ _) (vL (d _ _) (qe2 _).pv))))))))))))))
theorem vk1{v:V}(h:kV v=true):PV v:=by
 obtain⟨k,n,s⟩:=v;unfold kV at h;simp only at h
 by_cases h0:k=0
 ·subst h0;simp at h;obtain⟨rfl,rfl⟩:=h;exact .inl rfl
 by_cases h1:k=1
 ·subst h1
  simp at h;obtain⟨h,rfl⟩:=h;rcases h with rfl|rfl
  ·exact .inr (.inl ⟨false,rfl⟩)
  ·exact .inr (.inl ⟨true,rfl⟩)
 by_cases h2:k=2
 ·subst h2;simp at h;subst h;exact .inr (.inr (.inl ⟨n,rfl⟩))
 by_cases h3:k=3
 ·subst h3;simp at h;obtain⟨rfl,_⟩:=h;exact .inr (.inr (.inr ⟨s,rfl⟩))
 simp[h0,h1,h2,h3]at h
theorem vhe(h:xK ps=true)(n:mv):PV (xL ps n):=by
 unfold xL
 split
 ·rename_i p f
  have g:=ls f;obtain⟨k,e⟩:=dy g;have i:=(au.1 e).1;unfold xK at h;simp only[cn]at h;have:=List.all_eq_true.1 h.2 k (ff.2 i);unfold qct at this;rw[e]at this;simp only[cn]at this;exact vk1 this.1.2
 ·exact qs8.pv
theorem vk0(h:xK ps=true)(p:Pay)(s:List V):PV (ofN ps p s):=by
 unfold ofN xr;exact vL (vhe h _) (vL (vjz _) (vL (.inr (.inr (.inr ⟨_,rfl⟩))) (vL (qe2 _).pv (vL (qe2 _).pv (vL (qmq _ _).pv (vL (qsu _ _ _ (qe2 _)).pv (vL (qsv _ _ _).pv (vhf _ _ _))))))))
theorem vbt(h:xK ps=true)(t:Ast):PV (ofA ps t):=by rw[vea];exact vk0 h _ _
theorem qng{v:V}(h:BN v):xP (xP v)=v:=by
 rcases h with rfl|⟨b,rfl⟩
 ·rfl
 ·cases b<;>rfl
theorem vb7{x:V}(f:PV x)(e:PV y):xP (qg3 x y)=orV (xP x) (xP y):=by
 rcases f with rfl|⟨b,rfl⟩|⟨n,rfl⟩|⟨s,rfl⟩<;>rcases e with rfl|⟨c,rfl⟩|⟨m,rfl⟩|⟨u,rfl⟩<;>(try cases b)<;>(try cases c)<;>simp[qg3,orV,xP,nV,bV,iV,tV]
theorem vgz{x:V}(f:PV x)(e:PV y):xP (orV x y)=qg3 (xP x) (xP y):=by
 rcases f with rfl|⟨b,rfl⟩|⟨n,rfl⟩|⟨s,rfl⟩<;>rcases e with rfl|⟨c,rfl⟩|⟨m,rfl⟩|⟨u,rfl⟩<;>(try cases b)<;>(try cases c)<;>simp[qg3,orV,xP,nV,bV,iV,tV]
theorem qbl(x y:V):jr x y=jr y x:=by unfold jr;exact Bool.and_comm _ _
theorem qhg(x y:V):xP (yo x y)=leV y x:=by
 unfold yo leV;rw[qbl y x]
 split
 ·by_cases h:x.num<y.num
  ·rw[de h,cw (show ¬y.num<=x.num by omega)];rfl
  ·rw[cw h,de (show y.num<=x.num by omega)];rfl
 ·rfl
theorem vgy(x y:V):xP (leV x y)=yo y x:=by
 rw[←qhg];exact qng (qb7 _ _)
theorem qsm(x y:V):qg3 x y=qg3 y x:=by unfold qg3;rw[Bool.or_comm,Bool.and_comm]
theorem vbm(x y:V):orV x y=orV y x:=by unfold orV;rw[Bool.or_comm,Bool.and_comm]
theorem qzz(x y:V):eqV x y=eqV y x:=by
 unfold eqV
 by_cases h:x.kind=y.kind
 ·have e:decide (x=y)=decide (y=x):=by by_cases h:x=y;rw[de h,de h.symm];rw[cw h,cw λe=>h e.symm]
  simp[h,e]
 ·have f:¬y.kind=x.kind:=λe=>h e.symm
  simp[h,f]
theorem qsk(x y:V):qiq x y=qiq y x:=by unfold qiq;rw[qbl,Int.add_comm]
theorem quz(x y:V):qir x y=qir y x:=by unfold qir;rw[qbl,Int.mul_comm]
theorem qub(h:xC op=true)(x y:V):jF op x y=jF op y x:=by
 have:op=6\/op=7\/op=8\/op=16\/op=18:=by unfold xC at h;simpa [or_assoc]using h
 rcases this with rfl|rfl|rfl|rfl|rfl
 ·exact qsm x y
 ·exact vbm x y
 ·exact qzz x y
 ·exact qsk x y
 ·exact quz x y
section
variable {ps:List Pr}
def vC(ps:List Pr)(c:Co):V:=ofA ps (emb c)
theorem ver(e:vW op)(x y:Co):vC ps (.bin (qm op) x y)=jF op (vC ps x) (vC ps y):=by
 have:op≠0/\op≠1/\op≠2/\op≠3/\op≠4/\op≠20/\op≠21/\op≠22:=by unfold vW at e;omega
 show ofN ps (pK (qm op)) [ofA ps (emb x),ofA ps (emb y)]=_;simp[ofN,xr,pK,qm,this,vC]
theorem jD(e:vW op)(x y:Co):vC ps (qk op x y)=jF op (vC ps x) (vC ps y):=by
 unfold qk
 split
 ·rename_i h
  simp only[cn]at h;rw[ver e,qub h.1]
 ·exact ver e x y
theorem qy8(c:Co):vC ps (.un (qm 5) c)=xP (vC ps c):=by
 show ofN ps (pK (qm 5)) [ofA ps (emb c)]=_;simp[ofN,xr,pK,qm,jF,vC]
theorem qsw{t:Ast}(h:qv t=.ok 3):BN (ofA ps t):=by
 rw[ye]at h;rw[vea];generalize (qF t).map qv=rs at h;generalize (qF t).map (ofA ps)=vs;generalize j6 t=p at *
 have j:p.op≠0/\p.op≠1/\p.op≠2/\¬(14<=p.op/\p.op<=19):=by
  refine⟨λe=>?_,λe=>?_,λe=>?_,λe=>?_⟩
  ·rw[e]at h;simp[qK]at h
  ·rw[e]at h;simp[qK]at h
  ·rw[e]at h;simp[qK]at h
  ·have hd:zm 1 p.place 1 rs=.ok 3:=by
    have:p.op=14\/p.op=15\/p.op=16\/p.op=17\/p.op=18\/p.op=19:=mw;rcases this with e|e|e|e|e|e<;>(rw[e]at h;simpa [qK]using h)
   have:=xq hd;omega
 obtain⟨i,g,f,k⟩:=j;unfold ofN xr jF;rw[aj i,aj g,aj f,aj (show ¬p.op=14 by omega),aj (show ¬p.op=15 by omega),aj (show ¬p.op=16 by omega),aj (show ¬p.op=17 by omega),aj (show ¬p.op=18 by omega),aj (show ¬p.op=19 by omega)];exact jp (qe2 _) (jp (qe2 _) (jp (qmq _ _) (jp (qsu _ _ _ (qe2 _)) (jp (qsv _ _ _) (jp (qmr _) (jp (qmq _ _) (jp (qz5 _ _) (jp (vfd _ _) (jp (qmr _) (jp (qb7 _ _) (jp (qb7 _ _) (jp (qz4 _ _) (jp (qz4 _ _) (qe2 _))))))))))))))
theorem ves(o:xK ps=true):∀{c:Co} {k:Int},y7 c->ClC c k->(k=3\/k=0)->vC ps (qW c)=xP (vC ps c):=by
 intro c
 induction c with
 | leaf p=>
  intro k _ h z;unfold qW
  split
  ·rename_i e
   have e:p.op=3:=by simpa using e
   simp[vC,emb,ofA,ofN,pK,qm,e,xP,bV]
  ·split
   ·rename_i e
    have e:p.op=4:=by simpa using e
    simp[vC,emb,ofA,ofN,pK,qm,e,xP,bV]
   ·exact qy8 _
 | un p x ih=>
  intro k g h z;unfold qW
  split
  ·rename_i m
   simp only[cn,dg,bne_iff_ne]at m;have A:qK p.op 0 [qv (emb x)]=.ok k:=h;rw[m.1]at A;have hd:zm 3 0 3 [qv (emb x)]=.ok k:=by simpa [qK]using A
   obtain⟨a,C,D⟩:=qS hd _ (dp ..)
   have j:a≠0:=by
    have:qK (j6 (emb x)).op (j6 (emb x)).place ((qF (emb x)).map qv)=.ok a:=by rw[←ye];exact C
    refine qmv this ?_;have:(j6 (emb x)).op=opC x:=by cases x<;>rfl
    rw[this];exact m.2
   obtain rfl:a=3:=mw
   have:vC ps (.un p x)=xP (vC ps x):=by
    show ofN ps (pK p) [ofA ps (emb x)]=_;simp[ofN,xr,pK,m.1,jF,vC]
   rw[this];exact(qng (qsw C)).symm
  ·exact qy8 _
 | bin p x y ihx ihy=>
  intro k g h z
  have i:vC ps (.bin p x y)=jF p.op (vC ps x) (vC ps y):=by
   have f:=g.1;have:p.op≠0/\p.op≠1/\p.op≠2/\p.op≠3/\p.op≠4/\p.op≠20/\p.op≠21/\p.op≠22:=by unfold vW at f;omega
   show ofN ps (pK p) [ofA ps (emb x),ofA ps (emb y)]=_;simp[ofN,xr,pK,this,vC]
  unfold qW
  split
  ·rename_i f
   have f:p.op=6:=by simpa using f
   obtain⟨⟨a,j,q⟩,b,s,u⟩:=kL h (.inl ⟨.inl f,rfl⟩);rw[jD (by unfold vW;omega),ihx g.2.1 j q,ihy g.2.2 s u,i,f];exact(vb7 (vbt o _) (vbt o _)).symm
  ·split
   ·rename_i f
    have f:p.op=7:=by simpa using f
    obtain⟨⟨a,j,q⟩,b,s,u⟩:=kL h (.inl ⟨.inr f,rfl⟩);rw[jD (by unfold vW;omega),ihx g.2.1 j q,ihy g.2.2 s u,i,f];exact(vgz (vbt o _) (vbt o _)).symm
   ·split
    ·rename_i f
     have f:p.op=10:=by simpa using f
     rw[jD (by unfold vW;omega),i,f];exact(qhg _ _).symm
    ·split
     ·rename_i f
      have f:p.op=11:=by simpa using f
      rw[jD (by unfold vW;omega),i,f];exact(vgy _ _).symm
     ·exact qy8 _
theorem qvk(e:mv->V)(j:∀t,BN (e t)):∀(l:List mv) (f:V),BN f->l.foldl (λf t=>orV f (e t)) f=if f=bV true\/∃t∈l,e t=bV true then bV true else if f=bV false/\∀t∈l,e t=bV false then bV false else nV:=by
 intro l
 induction l with
 | nil=>
  intro f g;rcases g with rfl|⟨b,rfl⟩
  ·simp[nV,bV]
  ·cases b<;>simp[bV]
 | cons t r ih=>
  intro f g;rw[mg,ih _ (qz5 _ _)];have i:=j t;rcases g with rfl|⟨b,rfl⟩<;>rcases i with h|⟨c,h⟩<;>(try cases b)<;>(try cases c)<;>simp[h,orV,nV,bV]
theorem qh7(f:List mv)(t:mv):t∈Lib.compact f↔t∈f:=by
 unfold Lib.compact Lib.compactUpTo;simp only[fw,mf,ff];constructor
 ·rintro⟨j,⟨k,_⟩,rfl⟩
  simp[k]
 ·intro h
  obtain⟨j,k⟩:=dy h;have g:=(au.1 k).1
  have key:∀(n j:Nat),j<=n->j<f.length->∃i,(i<f.length/\Lib.keeps f.toArray i=true)/\f.toArray[i]! = f.toArray[j]! := by
   intro n
   induction n with
   | zero=>
    intro j k g;obtain rfl:j=0:=mw;exact⟨0,⟨g,Lib.keeps_lt_one _ 0 mw⟩,rfl⟩
   | succ n ih=>
    intro j k g
    by_cases hk:Lib.keeps f.toArray j=true
    ·exact⟨j,⟨g,hk⟩,rfl⟩
    ·have o:j≠0/\f.toArray[j]! = f.toArray[j - 1]! := by
      unfold Lib.keeps at hk;simp only[du]at hk;exact⟨λe=>hk (.inl e),Classical.byContradiction λe=>hk (.inr e)⟩
     obtain⟨i,m,e⟩:=ih (j - 1) mw mw;exact⟨i,m,e.trans o.2.symm⟩
  obtain⟨i,m,e⟩:=key j j nt g;refine⟨i,m,e.trans ?_⟩;have:=(au.1 k).2;simp[g,this]
theorem qh8(ts:List mv)(t:mv):t∈vf ts↔t∈ts:=by
 unfold vf;rw[qh7,List.mem_mergeSort]
theorem qy7(s:mv):vC ps (qY s)=tV s:=by simp[vC,qY,emb,ofA,ofN,pK]
theorem vdg(x:Co):∀(r:List mv) (f:Co),vC ps (jM x f r)=r.foldl (λf t=>orV f (eqV (vC ps x) (tV t))) (vC ps f):=by
 intro r
 induction r with
 | nil=>intro f;rfl
 | cons t r ih=>
  intro f;rw[jM,ih,mg,jD (by unfold vW;omega),jD (by unfold vW;omega),qy7];rfl
theorem vdf(x:Co){ts:List mv}(k:ts≠[]):vC ps (vt x ts)=gP (vC ps x) ts:=by
 have g:=λt=>vfd (vC ps x) (tV t)
 have j:=qh8 ts
 have e:gP (vC ps x) ts=(vf ts).foldl (λf t=>orV f (eqV (vC ps x) (tV t))) (bV false):=by
  unfold gP;rw[qvk _ g _ _ (qe2 _),qvk _ g _ _ (qe2 _)];simp only[j]
 rw[e];unfold vt
 cases hs:vf ts with
 | nil=>
  obtain⟨a,i⟩:=List.exists_mem_of_ne_nil _ k;rw[←j,hs]at i;cases i
 | cons t r=>
  simp only;rw[vdg,mg,jD (by unfold vW;omega),qy7]
  congr 1
  show eqV (vC ps x) (tV t)=orV (bV false) (eqV (vC ps x) (tV t));rcases g t with h|⟨b,h⟩
  ·rw[h];rfl
  ·rw[h];cases b<;>rfl
end
theorem qt7(n:Int):ClC (kd n) 1:=rfl
theorem qmu(s:mv):ClC (qY s) 2:=rfl
theorem qt8(g:ClC x 0):∀(r:List mv) (f:Co),ClC f 3->ClC (jM x f r) 3:=by
 intro r
 induction r with
 | nil=>intro f e;exact e
 | cons t r ih=>intro f e;exact ih _ (kj (.inr rfl) e (qmt g (qmu t) (.inr (.inl rfl))) (.inl rfl) (.inl rfl))
theorem qt5(e:ClC x 0){ts:List mv}(g:ts≠[]):ClC (vt x ts) 3:=by
 unfold vt
 cases hs:vf ts with
 | nil=>
  obtain⟨a,f⟩:=List.exists_mem_of_ne_nil _ g;rw[←qh8,hs]at f;cases f
 | cons t r=>exact qt8 e r _ (qmt e (qmu t) (.inr (.inl rfl)))
theorem qpv:∀t,ShA t->∀k,qv t=.ok k->ClC (qi t) k/\∀ps,xK ps=true->vC ps (qi t)=ofA ps t:=by
 intro t
 induction t with
 | leaf p=>
  intro j k i;have i:qK p.op p.place []=.ok k:=i;have f:p.op=0\/p.op=1\/p.op=2\/p.op=3\/p.op=4:=by have:=j.1;have:=j.2;omega
  refine⟨?_,λps _=>?_⟩
  ·show qK p.op 0 []=.ok k
   rw[←i];rcases f with h|h|h|h|h<;>rw[h]<;>rfl
  ·show ofN ps (pK (xA p)) []=ofN ps p []
   rcases f with h|h|h|h|h<;>simp[ofN,pK,xA,h]
 | un p x ih=>
  intro j k i;have i:qK p.op p.place [qv x]=.ok k:=i;rcases j.1 with f|f|f|f|f|f
  ·rw[f]at i
   have hd:zm 3 p.place 3 [qv x]=.ok k:=by simpa [qK]using i
   obtain⟨a,m,o⟩:=qS hd _ (dp ..);obtain⟨C,v1⟩:=ih j.2.2.2 a m;obtain rfl:=xq hd;have e:qi (.un p x)=qW (qi x):=by simp[qi,f]
   rw[e];refine⟨qt6 C o,λps g=>?_⟩;rw[ves g (gQ x j.2.2.2) C o,v1 ps g];show _=ofN ps p [ofA ps x];simp[ofN,xr,jF,f]
  ·rw[f]at i
   have hd:zm 1 p.place 1 [qv x]=.ok k:=by simpa [qK]using i
   obtain⟨a,m,o⟩:=qS hd _ (dp ..);obtain⟨C,v1⟩:=ih j.2.2.2 a m;obtain rfl:=xq hd;have e:qi (.un p x)=qk 16 (kd 0) (qi x):=by simp[qi,f]
   rw[e];refine⟨qj8 mw (qt7 0) C (.inl rfl) o,λps g=>?_⟩;rw[jD (by unfold vW;omega),v1 ps g];show _=ofN ps p [ofA ps x];simp[ofN,xr,jF,f,vC,kd,emb,pK,ofA]
  ·rw[f]at i
   have hd:zm 1 p.place 1 [qv x]=.ok k:=by simpa [qK]using i
   obtain⟨a,m,o⟩:=qS hd _ (dp ..);obtain⟨C,v1⟩:=ih j.2.2.2 a m;obtain rfl:=xq hd;have e:qi (.un p x)=qk 17 (kd 0) (qi x):=by simp[qi,f]
   rw[e];refine⟨qj8 mw (qt7 0) C (.inl rfl) o,λps g=>?_⟩;rw[jD (by unfold vW;omega),v1 ps g];show _=ofN ps p [ofA ps x];simp[ofN,xr,jF,f,vC,kd,emb,pK,ofA]
  ·have H:=j.2.2.1 (.inl f)
   have N:=j.2.1 f
   have m:qv x=.ok 0:=by
    rw[ye];have:(j6 x).op=0:=by rw[←H];cases x<;>rfl
    rw[this];rfl
   obtain⟨C,v1⟩:=ih j.2.2.2 0 m;have e:qi (.un p x)=vt (qi x) p.texts:=by simp[qi,f]
   rw[e];rw[f]at i;obtain rfl:k=3:=by simpa [qK]using i.symm
   refine⟨qt5 C N,λps g=>?_⟩;rw[vdf _ N,v1 ps g];show _=ofN ps p [ofA ps x];simp[ofN,xr,f]
  ·have H:=j.2.2.1 (.inr (.inl f))
   have m:qv x=.ok 0:=by
    rw[ye];have:(j6 x).op=0:=by rw[←H];cases x<;>rfl
    rw[this];rfl
   obtain⟨C,v1⟩:=ih j.2.2.2 0 m;have e:qi (.un p x)=.un (xA p) (qi x):=by simp[qi,f]
   rw[e];refine⟨?_,λps g=>?_⟩
   ·rw[f]at i
    obtain rfl:k=3:=by simpa [qK]using i.symm
    show qK p.op 0 [qv (emb (qi x))]=.ok 3;rw[f];rfl
   ·show ofN ps (pK (xA p)) [ofA ps (emb (qi x))]=ofN ps p [ofA ps x]
    have:=v1 ps g;unfold vC at this;rw[this];simp[ofN,xr,pK,xA,f]
  ·have H:=j.2.2.1 (.inr (.inr f))
   have m:qv x=.ok 0:=by
    rw[ye];have:(j6 x).op=0:=by rw[←H];cases x<;>rfl
    rw[this];rfl
   obtain⟨C,v1⟩:=ih j.2.2.2 0 m;have e:qi (.un p x)=.un (xA p) (qi x):=by simp[qi,f]
   rw[e];refine⟨?_,λps g=>?_⟩
   ·rw[f]at i
    obtain rfl:k=3:=by simpa [qK]using i.symm
    show qK p.op 0 [qv (emb (qi x))]=.ok 3;rw[f];rfl
   ·show ofN ps (pK (xA p)) [ofA ps (emb (qi x))]=ofN ps p [ofA ps x]
    have:=v1 ps g;unfold vC at this;rw[this];simp[ofN,xr,pK,xA,f,jF]
 | bin p x y ihx ihy=>
  intro j k i;have i:qK p.op p.place [qv x,qv y]=.ok k:=i;have f:(p.op=6\/p.op=7)\/(p.op=8\/p.op=9)\/(p.op=10\/p.op=11\/p.op=12\/p.op=13)\/(p.op=16\/p.op=17\/p.op=18\/p.op=19):=by have:=j.1;omega
  have I:∀ps,p.op≠9->p.op≠12->p.op≠13->xK ps=true->vC ps (qi x)=ofA ps x->vC ps (qi y)=ofA ps y->vC ps (qk p.op (qi x) (qi y))=ofA ps (.bin p x y):=by
   intro ps M O Q g vx vy;have T:vW p.op:=by unfold vW;omega
   rw[jD T,vx,vy];show _=ofN ps p [ofA ps x,ofA ps y];have:p.op≠0/\p.op≠1/\p.op≠2/\p.op≠3/\p.op≠4/\p.op≠20/\p.op≠21/\p.op≠22:=mw;simp[ofN,xr,this]
  have J:p.op≠9->p.op≠12->p.op≠13->qi (.bin p x y)=qk p.op (qi x) (qi y):=by
   intro M O Q;simp[qi,M,O,Q]
  rcases f with f|f|f|f
  ·have hd:zm 3 p.place 3 [qv x,qv y]=.ok k:=by rcases f with f|f<;>(rw[f]at i;simpa [qK]using i)
   obtain⟨a,m,o⟩:=qS hd (qv x) mx;obtain⟨b,A,F⟩:=qS hd (qv y) mx;obtain rfl:=xq hd;obtain⟨s,vx⟩:=ihx j.2.1 a m;obtain⟨u,vy⟩:=ihy j.2.2 b A;rw[J mw mw mw];exact⟨kj f s u o F,λps g=>I ps mw mw mw g (vx ps g) (vy ps g)⟩
  ·have D:zk p.place (qv x) (qv y)=.ok k:=by rcases f with f|f<;>(rw[f]at i;simpa [qK]using i)
   obtain⟨⟨a,m⟩,b,A⟩:=gO D;rw[m,A]at D
   have K:(a=b\/a=0\/b=0)/\k=3:=by
    have D:(if(a != b&&a != 0&&b != 0)=true then CRes.err p.place else .ok 3)=.ok k:=D
    split at D
    ·cases D
    ·rename_i G
     injection D with D;refine⟨?_,D.symm⟩;simp only[cn,bne_iff_ne]at G
     by_cases q:a=b
     ·exact .inl q
     ·by_cases q2:a=0
      ·exact .inr (.inl q2)
      ·exact .inr (.inr (Classical.byContradiction λS=>G ⟨⟨q,q2⟩,S⟩))
   obtain⟨K,rfl⟩:=K;obtain⟨s,vx⟩:=ihx j.2.1 a m;obtain⟨u,vy⟩:=ihy j.2.2 b A;rcases f with f|f
   ·rw[J mw mw mw]
    refine⟨?_,λps g=>I ps mw mw mw g (vx ps g) (vy ps g)⟩;rw[f];exact qmt s u K
   ·have e:qi (.bin p x y)=qW (qk 8 (qi x) (qi y)):=by simp[qi,f]
    rw[e];have c8:=qmt s u K;refine⟨qt6 c8 (.inl rfl),λps g=>?_⟩;rw[ves g (vl (by unfold vW;omega) (gQ x j.2.1) (gQ y j.2.2)) c8 (.inl rfl),jD (by unfold vW;omega),vx ps g,vy ps g];show _=ofN ps p [ofA ps x,ofA ps y];simp[ofN,xr,jF,f]
  ·have hd:zm 1 p.place 3 [qv x,qv y]=.ok k:=by rcases f with f|f|f|f<;>(rw[f]at i;simpa [qK]using i)
   obtain⟨a,m,o⟩:=qS hd (qv x) mx;obtain⟨b,A,F⟩:=qS hd (qv y) mx;obtain rfl:=xq hd;obtain⟨s,vx⟩:=ihx j.2.1 a m;obtain⟨u,vy⟩:=ihy j.2.2 b A
   have P:p.op=10\/p.op=11->ClC (qi (.bin p x y)) 3/\∀ps,xK ps=true->vC ps (qi (.bin p x y))=ofA ps (.bin p x y):=λf=>by
    rw[J mw mw mw];exact⟨yD f s u o F,λps g=>I ps mw mw mw g (vx ps g) (vy ps g)⟩
   rcases f with f|f|f|f
   ·exact P (.inl f)
   ·exact P (.inr f)
   ·have e:qi (.bin p x y)=qk 10 (qi y) (qi x):=by simp[qi,f]
    rw[e];refine⟨yD (.inl rfl) u s F o,λps g=>?_⟩;rw[jD (by unfold vW;omega),vx ps g,vy ps g];show _=ofN ps p [ofA ps x,ofA ps y];simp[ofN,xr,jF,f]
   ·have e:qi (.bin p x y)=qk 11 (qi y) (qi x):=by simp[qi,f]
    rw[e];refine⟨yD (.inr rfl) u s F o,λps g=>?_⟩;rw[jD (by unfold vW;omega),vx ps g,vy ps g];show _=ofN ps p [ofA ps x,ofA ps y];simp[ofN,xr,jF,f]
  ·have hd:zm 1 p.place 1 [qv x,qv y]=.ok k:=by rcases f with f|f|f|f<;>(rw[f]at i;simpa [qK]using i)
   obtain⟨a,m,o⟩:=qS hd (qv x) mx;obtain⟨b,A,F⟩:=qS hd (qv y) mx;obtain rfl:=xq hd;obtain⟨s,vx⟩:=ihx j.2.1 a m;obtain⟨u,vy⟩:=ihy j.2.2 b A;rw[J mw mw mw];exact⟨qj8 mw s u o F,λps g=>I ps mw mw mw g (vx ps g) (vy ps g)⟩
 | tri p x y z ihx ihy ihz=>
  intro j k i;have i:qK p.op p.place [qv x,qv y,qv z]=.ok k:=i;have f:=j.1;have hd:zm 1 p.place 3 [qv x,qv y,qv z]=.ok k:=by rw[f]at i;simpa [qK]using i
  obtain⟨a,m,o⟩:=qS hd (qv x) mx;obtain⟨b,A,F⟩:=qS hd (qv y) mx;obtain⟨c,Y,X⟩:=qS hd (qv z) mx;obtain rfl:=xq hd;obtain⟨s,vx⟩:=ihx j.2.1 a m;obtain⟨u,vy⟩:=ihy j.2.2.1 b A;obtain⟨Z,R⟩:=ihz j.2.2.2 c Y;refine⟨kj (.inl rfl) (yD (.inr rfl) u s F o) (yD (.inr rfl) s Z o X) (.inl rfl) (.inl rfl),λps g=>?_⟩;show vC ps (qk 6 (qk 11 (qi y) (qi x)) (qk 11 (qi x) (qi z)))=_;rw[jD (by unfold vW;omega),jD (by unfold vW;omega),jD (by unfold vW;omega),vx ps g,vy ps g,R ps g];show _=ofN ps p [ofA ps x,ofA ps y,ofA ps z];simp[ofN,xr,jF,f]
end
section
theorem qrz(le o:Int)(g:Nat->World->Prop)(w:World)(v:Value)(l:List Ox)(hl:vf6 w v l)(h0:g 0 (w.alloc (.cells #[.slice none 0 0,.slice none 0 0] 61)))(F0:∀k W,g k W->Xb w W)(T7:∀k W W',g k W->Xb W W'->g k W')(q:∀k W,g k W->g (k+1) W)
  (m:∀k W x,k<l.length->g k W->OxOk W x->((le<=x.kind/\x.kind<=o)\/(5<=x.kind/\5<=o))->nz 33 #[.pointer (some ⟨w.heap.size,0,none⟩),oxV x] W λe W'=>e=.returned (.bool true)/\g (k+1) W')
  (f:∀k W,k<=l.length->g k W->nz 34 #[.pointer (some ⟨w.heap.size,0,none⟩)] W λe W'=>e=.returned (.bool true)/\g k W') :
  nz 15 #[v,.int .i64 le,.int .i64 o] w λe w'=>e=.returned (.int .i64 (-1))/\g l.length w':=by
 obtain⟨a,cap,rfl,b9,bJ,FH⟩:=hl;obtain⟨n,R⟩:∃n,l.length=n:=⟨_,rfl⟩;rw[R]at b9 bJ m f ⊢;have HN:=qd R;have HO:=qd FH;have H0:=qd h0;have ZQ:=qd F0;have tB:=qd T7;have ZD:=qd q;have oH:=qd m;have JL:=qd f;clear R FH h0 F0 T7 m f q;go_enter func15,ntmps15
 go_wp2_with fail
 go_loopw [8] (λi wr=>∃k:Nat,k<=n/\i=.int .i64 k/\Hid (g k wr)) (λi _=>n - (intOf i).toNat)
 case atStart=>exact⟨0,bj _,rfl,H0⟩
 case round=>
  clear H0;obtain⟨k,hk,rfl,X⟩:=hrel
  by_cases A0:k<n
  ·obtain⟨x,hx⟩:∃x,l[k]?=some x:=⟨_,ag (by have:=q9 HN;omega)⟩
   obtain⟨ok,b,off,rfl,hb,hc⟩:=q9 HO k x hx;have O:=q9 ZQ _ _ X;have aX:b<wr.heap.size:=by have:=O.size;omega
   have okr:=ok.below O;have D:∀j,j<6->wr.cell? ⟨b,off+k * 6+j,none⟩=(qc0 x)[j]?:=λj hj=>((qj O).1 _ _ hb).trans (hc j hj)
   have dA:∃C z A,x.ev=.slice C z A:=ok.ev.slice;obtain⟨kind,nn,I,text,H,G,ts,ev,ps⟩:=x;obtain⟨C,z,A,C7⟩:=dA;simp only at C7;subst C7;obtain⟨lt,I4⟩:∃t,ts.length=t:=⟨_,rfl⟩;have c0:Xc wr b (off+k * 6) (.int .i64 kind):=D 0 mw;have c1:Xc wr b (off+k * 6+1) (.int .i64 nn):=D 1 mw;have c2:Xc wr b (off+k * 6+2) (.int .i64 I):=D 2 mw;have c3:Xc wr b (off+k * 6+3) (.string (BS text)):=D 3 mw;have c4:Xc wr b (off+k * 6+4) (.slice H ts.length G):=D 4 mw;have c5:Xc wr b (off+k * 6+5) (.slice C z A):=D 5 mw;have Y:=(Below.refl wr.heap.size wr).alloc nt (.cells #[.int .i64 kind,.int .i64 nn,.int .i64 I,.string (BS text),.slice H ts.length G,.slice C z A] 64);have M:=qd (tB _ _ _ X Y);have LKS:Hid (∀W,g (k+1) W->nz 34 #[.pointer (some ⟨w.heap.size,0,none⟩)] W λe W'=>e=.returned (.bool true)/\g (k+1) W'):=qd λW h=>q9 JL (k+1) W mw h
   have P:=qd (okr.below Y);have STP:Hid (((le<=kind/\kind<=o)\/(5<=kind/\5<=o))->∀W,g k W->OxOk W ⟨kind,nn,I,text,H,G,ts,.slice C z A,ps⟩->nz 33 #[.pointer (some ⟨w.heap.size,0,none⟩),.agg #[.int .i64 kind,.int .i64 nn,.int .i64 I,.string (BS text),.slice H ts.length G,.slice C z A]] W λe W'=>e=.returned (.bool true)/\g (k+1) W'):=qd λhh W N T=>q9 oH k W ⟨kind,nn,I,text,H,G,ts,.slice C z A,ps⟩ A0 N T hh
   rw[I4]at c4 M P STP;have Q:=qd (ZD _ _ M);have N5:(0:Int)<=(k:Int):=mw;have A5:(k:Int)<(n:Int):=mw;have nb:¬b=wr.heap.size:=mw;clear hx ok hc O okr D Y HO oH tB ZQ ZD JL I4;rcases(show(le<=kind/\kind<=o)\/(le<=kind/\¬kind<=o)\/¬le<=kind by omega) with⟨N,T⟩|⟨N,T⟩|N
   ·have STP:=qd (STP mw)
    go_wp2_with(first|(go_at_call 33;refine(STP _ M P).mono ?_;rintro e w2⟨rfl,u⟩;have F:=qd u;clear u)|(go_at_call 34;refine(LKS _ F).mono ?_;rintro e Z⟨rfl,s⟩;have K:=qd s;clear s))
    go_roundw
    case rel=>exact⟨k+1,mw,by go_num,K⟩
    case measure=>simp[intOf];omega
   ·skip
    rcases(show kind<5\/(¬kind<5/\o<5)\/(¬kind<5/\¬o<5) by omega) with J|⟨J,S⟩|⟨J,S⟩
    ·clear STP
     go_wp2_with fail
     go_roundw
     case rel=>exact⟨k+1,mw,by go_num,Q⟩
     case measure=>simp[intOf];omega
    ·clear STP
     go_wp2_with fail
     go_roundw
     case rel=>exact⟨k+1,mw,by go_num,Q⟩
     case measure=>simp[intOf];omega
    ·have STP:=qd (STP mw)
     go_wp2_with(first|(go_at_call 33;refine(STP _ M P).mono ?_;rintro e w2⟨rfl,u⟩;have F:=qd u;clear u)|(go_at_call 34;refine(LKS _ F).mono ?_;rintro e Z⟨rfl,s⟩;have K:=qd s;clear s))
     go_roundw
     case rel=>exact⟨k+1,mw,by go_num,K⟩
     case measure=>simp[intOf];omega
   ·skip
    rcases(show kind<5\/(¬kind<5/\o<5)\/(¬kind<5/\¬o<5) by omega) with J|⟨J,S⟩|⟨J,S⟩
    ·clear STP
     go_wp2_with fail
     go_roundw
     case rel=>exact⟨k+1,mw,by go_num,Q⟩
     case measure=>simp[intOf];omega
    ·clear STP
     go_wp2_with fail
     go_roundw
     case rel=>exact⟨k+1,mw,by go_num,Q⟩
     case measure=>simp[intOf];omega
    ·have STP:=qd (STP mw)
     go_wp2_with(first|(go_at_call 33;refine(STP _ M P).mono ?_;rintro e w2⟨rfl,u⟩;have F:=qd u;clear u)|(go_at_call 34;refine(LKS _ F).mono ?_;rintro e Z⟨rfl,s⟩;have K:=qd s;clear s))
     go_roundw
     case rel=>exact⟨k+1,mw,by go_num,K⟩
     case measure=>simp[intOf];omega
  ·have oX:¬(k:Int)<(n:Int):=mw
   have U6:k=n:=mw
   go_wp2_with fail
   go_ret;exact⟨rfl,U6 ▸ q9 X⟩
end
section
def NmP(p:CP):Prop:=p.op=0/\p.num=0/\p.esc=[]/\yp p.str=true
def LfP(p:CP):Prop:=NmP p\/(p.op=1/\0<=p.num/\p.num<=9223372036854775807/\p.str=[]/\p.esc=[])\/(p.op=2/\p.num=0/\p.esc=[])\/((p.op=3\/p.op=4)/\p.num=0/\p.str=[]/\p.esc=[])
def LkP(p:CP):Prop:=p.op=22/\p.num=0/\(p.esc=[]\/p.esc.length=1/\(zi p.esc p.str).isSome=true)
def OkC:Co->Prop
 | .leaf p=>LfP p
 | .un p x=>OkC x/\(p=qm 5\/(∃q,x=.leaf q/\NmP q)/\(p=qm 23\/LkP p))
 | .bin p x y=>OkC x/\OkC y/\∃op,vW op/\p=qm op
theorem jA(g:vW op){y:Co}(f:OkC x)(e:OkC y):OkC (qk op x y):=by
 unfold qk
 split
 ·exact⟨e,f,op,g,rfl⟩
 ·exact⟨f,e,op,g,rfl⟩
theorem vju(h:n=3\/n=4):OkC (.leaf (qm n)):=.inr (.inr (.inr ⟨h,rfl,rfl,rfl⟩))
theorem veb:∀{c:Co},OkC c->OkC (qW c):=by
 intro c
 induction c with
 | leaf p=>
  intro h;unfold qW
  split
  ·exact vju (.inr rfl)
  ·split
   ·exact vju (.inl rfl)
   ·exact⟨h,.inl rfl⟩
 | un p x ih=>
  intro h;unfold qW
  split
  ·exact h.1
  ·exact⟨h,.inl rfl⟩
 | bin p x y ihx ihy=>
  intro h;unfold qW
  split
  ·exact jA (by unfold vW;omega) (ihx h.1) (ihy h.2.1)
  ·split
   ·exact jA (by unfold vW;omega) (ihx h.1) (ihy h.2.1)
   ·split
    ·exact jA (by unfold vW;omega) h.2.1 h.1
    ·split
     ·exact jA (by unfold vW;omega) h.2.1 h.1
     ·exact⟨h,.inl rfl⟩
theorem qvh(t:mv):OkC (qY t):=.inr (.inr (.inl ⟨rfl,rfl,rfl⟩))
theorem vbh(g:OkC x):∀(r:List mv) (f:Co),OkC f->OkC (jM x f r):=by
 intro r
 induction r with
 | nil=>intro f e;exact e
 | cons t r ih=>intro f e;exact ih _ (jA (by unfold vW;omega) e (jA (by unfold vW;omega) g (qvh t)))
theorem vbg(e:OkC x)(ts:List mv):OkC (vt x ts):=by
 unfold vt
 cases vf ts with
 | nil=>exact e
 | cons t r=>exact vbh e r _ (jA (by unfold vW;omega) e (qvh t))
theorem qha{x:Ast}(e:opA x=0)(f:ShA x)(g:BzA x):∃q,qi x=.leaf q/\NmP q:=by
 cases x with
 | leaf p=>have e:p.op=0:=e;exact⟨xA p,rfl,e,g.name e⟩
 | un p y=>have e:p.op=0:=e;have:=f.1;omega
 | bin p y z=>have e:p.op=0:=e;have:=f.1;omega
 | tri p y z u=>have e:p.op=0:=e;have:=f.1;omega
theorem qvg:OkC (kd 0):=.inr (.inl ⟨rfl,nh,nh,rfl,rfl⟩)
theorem vh2:∀t,ShA t->BzA t->qg9 t->OkC (qi t):=by
 intro t
 induction t with
 | leaf p=>
  intro i g k;have f:p.op=0\/p.op=1\/p.op=2\/p.op=3\/p.op=4:=by have:=i.1;have:=i.2;omega
  rcases f with h|h|h|h|h
  ·exact .inl ⟨h,g.name h⟩
  ·have:=g.num h
   exact .inr (.inl ⟨h,this.1,k.2,this.2.1,this.2.2⟩)
  ·have:=g.text h
   exact .inr (.inr (.inl ⟨h,this.1,this.2⟩))
  ·exact .inr (.inr (.inr ⟨.inl h,g.bare (.inl h)⟩))
  ·exact .inr (.inr (.inr ⟨.inr h,g.bare (.inr (.inl h))⟩))
 | un p x ih=>
  intro i g k;have j:=ih i.2.2.2 g.2 k.2;rcases i.1 with f|f|f|f|f|f
  ·have e:qi (.un p x)=qW (qi x):=by simp[qi,f]
   rw[e];exact veb j
  ·have e:qi (.un p x)=qk 16 (kd 0) (qi x):=by simp[qi,f]
   rw[e];exact jA (by unfold vW;omega) qvg j
  ·have e:qi (.un p x)=qk 17 (kd 0) (qi x):=by simp[qi,f]
   rw[e];exact jA (by unfold vW;omega) qvg j
  ·have e:qi (.un p x)=vt (qi x) p.texts:=by simp[qi,f]
   rw[e];exact vbg j _
  ·have e:qi (.un p x)=.un (xA p) (qi x):=by simp[qi,f]
   rw[e];have q:=g.1.like f;exact⟨j,.inr ⟨qha (i.2.2.1 (.inr (.inl f))) i.2.2.2 g.2,.inr ⟨f,q.1,q.2⟩⟩⟩
  ·have e:qi (.un p x)=.un (xA p) (qi x):=by simp[qi,f]
   rw[e];have o:=g.1.bare (.inr (.inr (.inr f)));refine⟨j,.inr ⟨qha (i.2.2.1 (.inr (.inr f))) i.2.2.2 g.2,.inl ?_⟩⟩;unfold xA qm;rw[f,o.1,o.2.1,o.2.2]
 | bin p x y ihx ihy=>
  intro i g k;have j:=ihx i.2.1 g.2.1 k.2.1;have m:=ihy i.2.2 g.2.2 k.2.2;have f:=i.1
  by_cases E7:p.op=12
  ·simp[qi,E7];exact jA (by unfold vW;omega) m j
  by_cases O7:p.op=13
  ·simp[qi,O7];exact jA (by unfold vW;omega) m j
  by_cases h9:p.op=9
  ·simp[qi,h9];exact veb (jA (by unfold vW;omega) j m)
  simp[qi,E7,O7,h9];exact jA (by unfold vW;omega) j m
 | tri p x y z ihx ihy ihz=>
  intro i g k;have j:=ihx i.2.1 g.2.1 k.2.1;exact jA (by unfold vW;omega) (jA (by unfold vW;omega) (ihy i.2.2.1 g.2.2.1 k.2.2.1) j) (jA (by unfold vW;omega) j (ihz i.2.2.2 g.2.2.2 k.2.2.2))
def sgK(op:Int):Int:=if op==6 then 5 else if op==7 then 6 else if op==8 then 16 else if op==10 then 18 else if op==11 then 19 else if op==16 then 22 else if op==17 then 23 else if op==18 then 24 else 25
def va2(e:List UInt8):List Tk:=if e.isEmpty then[] else[qh 13,⟨4,0,e⟩]
def pE(p:CP)(l r:List Tk):List Tk:=
 if p.op==0 then[⟨2,0,p.str⟩] else if p.op==1 then[⟨3,p.num,[]⟩] else if p.op==2 then[⟨4,0,p.str⟩] else if p.op==3 then[qh 8] else if p.op==4 then[qh 9]
 else if p.op==5 then qh 26::qh 7::(l++[qh 27]) else if p.op==23 then qh 26::(l++[qh 14,qh 15,qh 27])
 else if p.op==22 then qh 26::(l++qh 12::⟨4,0,p.str⟩::(va2 p.esc++[qh 27]))
 else qh 26::(l++qh (sgK p.op)::(r++[qh 27]))
def toks:Co->List Tk
 | .leaf p=>pE p [] []
 | .un p x=>pE p (toks x) []
 | .bin p x y=>pE p (toks x) (toks y)
theorem vgq{s:mv}(h:yp s=true):Lx s [⟨2,0,s⟩]:=by
 unfold yp at h;simp only[cn,du,dg]at h;obtain⟨⟨g,f⟩,o⟩:=h
 cases s with
 | nil=>simp[qx]at g
 | cons c t=>
  have e:yd c=true:=by
   by_cases e:yd c=true
   ·exact e
   ·simp[qx,e]at g
  have k:spU c=false:=by
   unfold yd qa9 at e;unfold spU spB;simp at e ⊢;omega
  have i:qN (c::t) 0=0:=by unfold qN;simp[qw,k]
  have j:0<(c::t).length:=mx;have m:(c::t).take (qx (c::t))=c::t:=by rw[f];exact fk
  have u:qJ (c::t) 0=⟨2,0,c::t⟩:=by
   unfold qJ;rw[i,bh j,db];show(if yd c then vU (c::t) else _)=_;rw[bh e];unfold vU;rw[m,bh o]
  have q:qZ (c::t) 0=(c::t).length:=by
   unfold qZ;rw[i,bh j,db,ee];show(if yd c then qx (c::t) else _)=_;rw[bh e,f]
  exact .cons u (show(2:Int)≠0 by decide) (by rw[q,List.drop_length];exact kr)
theorem vfn(u:Nat):Lib.decDigits u=qbd u:=by
 induction u using Nat.strongRecOn with
 | ind u ih=>
  by_cases h:u<10
  ·rw[Lib.decDigits,dif_pos h,kM h]
   unfold dig;rw[Nat.mod_eq_of_lt h]
  ·rw[Lib.decDigits,dif_neg h,gT h,ih (u / 10) mw]
   rfl
theorem qus(f:0<=n)(e:n<=9223372036854775807):Lx (Lib.itoa n) [⟨3,n,[]⟩]:=by
 have:=quq (n:=n.toNat) mw (r:=[]) (λc h=>by cases h) kr;rw[ew,show((n.toNat:Nat):Int)=n by omega]at this;unfold Lib.itoa;rw[aj mw,vfn];exact this
theorem vm4(s r:mv)(h:Lx r L)(e:∀c,r.head?=some c->(c==39)=false):Lx (qL s++r) (⟨4,0,s⟩::L):=by
 have:=qut h e s;unfold qL;simpa using this
theorem vgs(f:vW op)(h:Lx r L):Lx (jo op++32::r) (qh (sgK op)::L):=by
 have e:=jY h;have:op=6\/op=7\/op=8\/op=10\/op=11\/op=16\/op=17\/op=18\/op=19:=by unfold vW at f;omega
 rcases this with rfl|rfl|rfl|rfl|rfl|rfl|rfl|rfl|rfl
 ·exact vjh h
 ·exact vm3 h
 ·exact .cons (k:=qh 16) rfl (show(16:Int)≠0 by decide) e
 ·exact .cons (k:=qh 18) rfl (show(18:Int)≠0 by decide) e
 ·exact .cons (k:=qh 19) rfl (show(19:Int)≠0 by decide) e
 ·exact .cons (k:=qh 22) rfl (show(22:Int)≠0 by decide) e
 ·exact .cons (k:=qh 23) rfl (show(23:Int)≠0 by decide) e
 ·exact .cons (k:=qh 24) rfl (show(24:Int)≠0 by decide) e
 ·exact .cons (k:=qh 25) rfl (show(25:Int)≠0 by decide) e
theorem vgp(e:mv):Lx (qg4 e++[41]) (va2 e++[qh 27])/\∀c,(qg4 e++[41]).head?=some c->(c==39)=false:=by
 unfold qg4 va2
 split
 ·exact⟨gW kr,λc h=>by simp at h;subst h;rfl⟩
 ·refine⟨?_,λc h=>by simp at h;subst h;rfl⟩
  have f:=vm4 e [41] (gW kr) (λc h=>by simp at h;subst h;rfl);exact jY (.cons (k:=qh 13) rfl (show(13:Int)≠0 by decide) (jY f))
theorem vgr:Lx (78::85::76::76::41::[]) [qh 15,qh 27]:=.cons (k:=qh 15) rfl (show(15:Int)≠0 by decide) (gW kr)
theorem qur:Lx (73::83::32::78::85::76::76::41::[]) [qh 14,qh 15,qh 27]:=.cons (k:=qh 14) rfl (show(14:Int)≠0 by decide) (jY vgr)
theorem vav(h:Lx r L):Lx (76::73::75::69::32::r) (qh 12::L):=.cons (k:=qh 12) rfl (show(12:Int)≠0 by decide) (jY h)
theorem vk9(op:Int):sgK op≠1:=by
 unfold sgK
 repeat' split
 all_goals decide
theorem qup:∀c,OkC c->Lx (qp c) (toks c)/\∀k∈toks c,k.kind≠1:=by
 intro c
 induction c with
 | leaf p=>
  intro h;show Lx (qE p [] []) (pE p [] [])/\∀k∈pE p [] [],k.kind≠1;rcases h with⟨h,_,_,q⟩|⟨h,q,G,_⟩|⟨h,_⟩|⟨h|h,_⟩
  ·simp[qE,pE,h];exact vgq q
  ·simp[qE,pE,h];exact qus q G
  ·simp[qE,pE,h]
   have:=vm4 p.str [] kr (λc h=>by cases h);simpa using this
  ·simp[qE,pE,h,qh]
   exact .cons (k:=qh 8) rfl (show(8:Int)≠0 by decide) kr
  ·simp[qE,pE,h,qh]
   exact .cons (k:=qh 9) rfl (show(9:Int)≠0 by decide) kr
 | un p x ih=>
  intro h;obtain⟨o,i⟩:=ih h.1;show Lx (qE p (qp x) []) (pE p (toks x) [])/\∀k∈pE p (toks x) [],k.kind≠1;rcases h.2 with rfl|⟨_,rfl|F⟩
  ·have g:qE (qm 5) (qp x) []=40::78::79::84::32::(qp x++41::[]):=by simp[qE,qm]
   have f:pE (qm 5) (toks x) []=qh 26::qh 7::(toks x++[qh 27]):=by simp[pE,qm]
   rw[g,f];refine⟨qen (.cons (k:=qh 7) rfl (show(7:Int)≠0 by decide) (jY (qh3 ven (gW kr) o i))),λk e=>?_⟩;simp only[eg,cr,fl,or_false]at e;rcases e with rfl|rfl|e|rfl
   ·decide
   ·decide
   ·exact i k e
   ·decide
  ·have g:qE (qm 23) (qp x) []=40::(qp x++32::73::83::32::78::85::76::76::41::[]):=by simp[qE,qm]
   have f:pE (qm 23) (toks x) []=qh 26::(toks x++[qh 14,qh 15,qh 27]):=by simp[pE,qm]
   rw[g,f];refine⟨qen (qh3 qxj (jY qur) o i),λk e=>?_⟩;simp only[eg,cr,fl,or_false]at e;rcases e with rfl|e|rfl|rfl|rfl
   ·decide
   ·exact i k e
   ·decide
   ·decide
   ·decide
  ·have j:=F.1
   have g:qE p (qp x) []=40::(qp x++32::76::73::75::69::32::(qL p.str++(qg4 p.esc++[41]))):=by simp[qE,j]
   have f:pE p (toks x) []=qh 26::(toks x++qh 12::⟨4,0,p.str⟩::(va2 p.esc++[qh 27])):=by simp[pE,j]
   rw[g,f];obtain⟨A,z⟩:=vgp p.esc;refine⟨qen (qh3 qxj (jY (vav (vm4 p.str _ A z))) o i),λk e=>?_⟩;simp only[eg,cr,fl,or_false]at e;rcases e with rfl|e|rfl|rfl|e|rfl
   ·decide
   ·exact i k e
   ·decide
   ·exact(by decide:(4:Int)≠1)
   ·unfold va2 at e
    split at e
    ·cases e
    ·simp only[eg,fl,or_false]at e
     rcases e with rfl|rfl
     ·decide
     ·exact(by decide:(4:Int)≠1)
   ·decide
 | bin p x y ihx ihy=>
  intro h;obtain⟨D,s⟩:=ihx h.1;obtain⟨C,u⟩:=ihy h.2.1;obtain⟨op,j,rfl⟩:=h.2.2;have m:op≠0/\op≠1/\op≠2/\op≠3/\op≠4/\op≠5/\op≠22/\op≠23:=by unfold vW at j;omega
  have g:qp (.bin (qm op) x y)=40::(qp x++32::(jo op++32::(qp y++41::[]))):=by simp[qp,qE,qm,m]
  have f:toks (.bin (qm op) x y)=qh 26::(toks x++qh (sgK op)::(toks y++[qh 27])):=by simp[toks,pE,qm,m]
  rw[g,f];refine⟨qen (qh3 qxj (jY (vgs j (qh3 ven (gW kr) C u))) D s),λk e=>?_⟩;simp only[eg,cr,fl,or_false]at e;rcases e with rfl|e|rfl|e|rfl
  ·decide
  ·exact s k e
  ·exact vk9 op
  ·exact u k e
  ·decide
end
section
set_option linter.unusedSimpArgs false
set_option linter.unusedVariables false
attribute [local go_sem ↓] jt
theorem qap(S:WSt base W l tb t w v)(s:mv)(hn:l.length+s.length<=900000)(Z:s.length<=255):
  nz 170 #[v,.string (BS s)] w λe w'=>∃a n c,e=.returned (.slice a n c)/\OB w' base (.slice a n c) (l++qaa s)/\TmAt w' tb t/\Below base W w'/\base<=w'.heap.size:=by
 have z:(BS s).size=s.length:=qG s;obtain⟨a,c,rfl⟩:=S.ob.form;obtain⟨m,q⟩:∃m,l.length=m:=⟨_,rfl⟩;obtain⟨g,cap,o,Y,I⟩:=S.app (UInt8.ofNat s.length) (s.length:Int) (by rw[fu];simp;omega) mw m q _ rfl;have f:=q9 I;obtain⟨O,G,J,M,K⟩:=info_parts kp
 have A:o.ownsRow base 5 1 (.slice (some ⟨g,0,none⟩) (m+1) cap) (m+1) (vd (l++[UInt8.ofNat s.length])):=by
  have:=f.ob;unfold OB at this;rw[bu,da,q]at this;exact this
 obtain⟨D,i,F,u,j,_⟩:=Lib.run_append_own_string (P:=prog) o base 51 9 51 5 O underlying51 underlying9 G J M K _ (m+1) _ A (BS s) (by rw[z];unfold maxLen;omega) (by rw[z];omega) f.ge;have bK:(ki #[51,9] 51 #[.slice (some ⟨g,0,none⟩) (m+1) cap,.string (BS s)]).run prog o=.ok D i:=F
 have C:OB i base D (l++qaa s):=by
  rw[z,qcm]at u;show World.ownsRow _ _ _ _ _ _ _;have e:l++qaa s=(l++[UInt8.ofNat s.length])++s:=by simp[qaa]
  rw[e,bu,bu,da,q];unfold vd at u ⊢;rw[dt (l₁:=l++[UInt8.ofNat s.length])];exact u
 obtain⟨X,T,rfl⟩:=C.form;have H:TmAt i tb t:=f.tm.same (bg f.tm.lt j.size) (j.block tb f.tm.lt λe=>f.ne e.symm);have N:Below base W i:=f.bel.trans (Go.RowKit.Below.grown (Below.refl base o) j f.ge (λk Q=>(World.ownsRow.lt A k Q).1));have R:Hid (OB i base (.slice X (l++qaa s).length T) (l++qaa s)/\TmAt i tb t/\Below base W i/\base<=i.heap.size):=qd ⟨C,H,N,bs f.ge j.size⟩;have WC:(0:Int)<=(s.length:Int):=mw;have J2:(s.length:Int)<256:=mw;rw[q]at Y ⊢;generalize (l++qaa s).length=n6 at *;clear C H N I f A F u j S G J M K;go_enter func170,ntmps170
 go_wp2_with fail
 go_ret;exact⟨_,_,_,rfl,q9 R⟩
theorem vdm(base:Nat)(v:Value)(l:mv)(t:Tm)(W:World)(h:OB W base v l)(A:base<=W.heap.size)(u:l.length<=800000)(g:SmallT t)(s:t.op=22)(Q:Ending->World->Prop)(C:∀e w',xN base W (l++encT t) e w'->Q e w'):
  nz 117 #[tmV t,v] W Q:=by
 have D:encT t=[UInt8.ofNat 22,UInt8.ofNat t.left]++qaa t.esc++qaa t.str:=by simp[encT,s,jk]
 have O:=qd C;rw[D]at O;clear C;have j:=qd (WSt.start h A t 125);obtain⟨a,c,rfl⟩:=h.form;have z:=g.left;have iT:(0:Int)<=(t.left:Int):=mw;have cJ:(t.left:Int)<256:=mw;obtain⟨n,i⟩:∃n,l.length=n:=⟨_,rfl⟩;rw[i]at j u ⊢;obtain⟨g1,L4,w1,Q6,M⟩:=(q9 j).app (UInt8.ofNat 22) 22 nh mw n i (W.heap.size+1) mx;obtain⟨uW,Z,a1,a2,Y,a4,a5,af⟩:=(q9 M).tm;obtain⟨g2,U1,w2,bK,K⟩:=(q9 M).app (UInt8.ofNat t.left) (t.left:Int) (qd3 z) my (n+1) (by simp[i]) _ rfl;obtain⟨VH,X,b1,b2,b3,b4,b5,bf⟩:=(q9 K).tm;have hs:=g.str;have he:=g.esc;have J:=qd (qap K t.esc my mw);have I:Hid (∀f v3,OB f base v3 (l++[UInt8.ofNat 22]++[UInt8.ofNat t.left]++qaa t.esc)->base<=f.heap.size->nz 170 #[v3,.string (BS t.str)] f (xN base f (l++[UInt8.ofNat 22]++[UInt8.ofNat t.left]++qaa t.esc++qaa t.str))):=qd λf v3 T D6=>yV base v3 _ t.str f T D6 (by simp[qaa];omega) mw _ (λe w' h=>h)
 have S:Hid (l++[UInt8.ofNat 22]++[UInt8.ofNat t.left]++qaa t.esc++qaa t.str=l++([UInt8.ofNat 22,UInt8.ofNat t.left]++qaa t.esc++qaa t.str)):=qd mx;unfold tmV;have F:(t.op:Int)=22:=mw;rw[F]at Z Q6 X ⊢;clear D s h z g i u A F j;go_enter func117,ntmps117
 go_wp2_with(first|(go_at_call 170;refine(I _ _ k.1 k.2.2).mono ?_;clear I;rintro e w4⟨v4,rfl,o,N⟩;have m:=qd o;have R:=qd N;clear o N)|(go_at_call 170;refine J.mono ?_;clear J;rintro e f⟨Y,n3,c3,rfl,q,⟨P,d0,d1,d2,d3,d4,d5,df⟩,G,H⟩;have k:=qd (And.intro q (And.intro G H));clear q G H))
 exact q9 O _ _ ⟨_,rfl,by have:=q9 m;rw[q9 S]at this;exact this,k.2.1.trans R⟩
theorem yU(t:Tm)(e:SmallT t)(h:t.op∈[0,1,2,3,4,5,6,7,8,10,11,16,17,18,19,22,23]):qb4 t:=by
 by_cases T5:t.op=22
 ·exact λbase v l W i g f=>vdm base v l t W i g f e T5 _ λ_ _ h=>h
 ·refine qg1 t e ?_
  simp only[eg,fl,or_false]at h ⊢;omega
end
end Go.Proofs.YtfkcaldjphakpaaGreatDoor
