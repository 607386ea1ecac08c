/- What a term of a progr -/
import Derived.Test.YtdmmmgodfceilaaGreatDoorM15
import Derived.Lib.Overlaps
import Derived.Lib.AppendZerosOnto
import Derived.Lib.SliceRun
set_option maxHeartbeats 8000000
set_option maxRecDepth 100000
namespace Go.Proofs.YtdmmmgodfceilaaGreatDoor
open Go.RowKit Go.Proofs.Tryz
open Go renaming Value->Ap,World->Ao
open Go.Ending renaming returned->Ak
open Go.IntKind renaming i64->J
open Go.Obj renaming cells->Al
open Go.Value renaming agg->Ai,bool->Ah,int->I,pointer->Ag,slice->C,string->Y,tuple->Aj
open Option renaming none->O,some->G
open Or renaming inl->Am,inr->An
variable{cur:Array Ap}{xs:List Ap}{A base c cap g hb ho i j k n o size vb:Nat}{r:Option Nat}{t:Tm}{e:TypeId}{X Ad:V}{v:Ap}{W a b w w' w1:Ao}
def ofT(ps:List Pr)(vs:List V)(t:Tm):V:=
 if t.op=0 then yh ps t.V
 else if t.op=1 then iV t.K
 else if t.op=2 then tV t.V
 else if t.op=3\/t.op=4 then bV (t.op==3)
 else if t.op=22 then qbu (vs.getD t.left nV) t.V t.h
 else jY t.op (vs.getD t.left nV) (vs.getD t.right nV)
def ValsAt(w:Ao)(vb n:Nat)(vs:List V):Prop:=∀i,i<n ->
 w.cell? ⟨vb,i * 3,O⟩=G (I J (vs.getD i nV).A)/\w.cell? ⟨vb,i * 3+1,O⟩=G (I J (vs.getD i nV).K)/\w.cell? ⟨vb,i * 3+2,O⟩=G (Y (BS (vs.getD i nV).V))
theorem ValsAt.below{B:Nat}{vs:List V}(h:ValsAt w vb n vs)(hb:Below B w w')(d:vb<B):ValsAt w' vb n vs:=by
 intro k f;obtain⟨p,m,l⟩:=h k f;exact⟨(hb.cell d).trans p,(hb.cell d).trans m,(hb.cell d).trans l⟩
def kU(w:Ao)(ps:List Pr)(ev vv:Ap)(vs:List V)(t:Tm):Prop:=
 Calls prog 108 #[tmV t,ev,vv] w λe w'=>e=Ak (vV (ofT ps vs t))/\Below w.1.size w w'
def JS(A vb:Nat)(t:Tm)(X Ad:V)(w':Ao):Prop:=w'.cell? ⟨A,0,O⟩=G (I J t.op)/\w'.cell? ⟨A,1,O⟩=G (I J t.left)/\w'.cell? ⟨A,2,O⟩=G (I J t.right)/\w'.cell? ⟨vb,t.left * 3,O⟩=G (I J X.A)/\w'.cell? ⟨vb,t.left * 3+1,O⟩=G (I J X.K)/\w'.cell? ⟨vb,t.left * 3+2,O⟩=G (Y (BS X.V))/\w'.cell? ⟨vb,t.right * 3,O⟩=G (I J Ad.A)/\w'.cell? ⟨vb,t.right * 3+1,O⟩=G (I J Ad.K)/\w'.cell? ⟨vb,t.right * 3+2,O⟩=G (Y (BS Ad.V))
theorem qx6(h:JS A vb t X Ad W)(l:w1.1[A]?=W.1[A]?)(hv:w1.1[vb]?=W.1[vb]?):JS A vb t X Ad w1:=by
 have f:∀j,w1.cell? ⟨A,j,O⟩=W.cell? ⟨A,j,O⟩:=λj=>aw (w:=W) (w':=w1) (a:=⟨A,j,O⟩) l
 have d:∀j,w1.cell? ⟨vb,j,O⟩=W.cell? ⟨vb,j,O⟩:=λj=>aw (w:=W) (w':=w1) (a:=⟨vb,j,O⟩) hv
 obtain⟨B,z,y,x,u,s,q,p,m⟩:=h;exact⟨(f _).trans B,(f _).trans z,(f _).trans y,(d _).trans x,(d _).trans u,(d _).trans s,(d _).trans q,(d _).trans p,(d _).trans m⟩
theorem vdx(h:JS A vb t X Ad W)(hb:Xb W w1)(d:A<W.1.size)(hv:vb<W.1.size):JS A vb t X Ad w1:=qx6 h (hb.block A d) (hb.block vb hv)
theorem vdy{R:Nat}{m l f:Ap}(h:JS A vb t X Ad w1)(d:A≠R)(hv:vb≠R):JS A vb t X Ad (((w1.setCell ⟨R,0,O⟩ m).setCell ⟨R,1,O⟩ l).setCell ⟨R,2,O⟩ f):=
 qx6 h (((au _ _ _ A d).trans (au _ _ _ A d)).trans (au _ _ _ A d)) (((au _ _ _ vb hv).trans (au _ _ _ vb hv)).trans (au _ _ _ vb hv))
theorem vrl(w:Ao)(ps:List Pr)(ev:Ap)(a:Option Addr)(n c:Nat)(vs:List V)(t:Tm)(f:EvArg w ev ps)(ho:t.op=0):kU w ps ev (C a n c) vs t:=by
 have l:ofT ps vs t=yh ps t.V:=by simp[ofT,ho]
 unfold kU;rw[l];have CON:=qd (λw1 (h:EvArg w1 ev ps)=>vdd h (BS t.V));have m:=qd f;obtain⟨x,s,u,rfl⟩:=f.slice;unfold tmV;rw[ho];go_enter func108,ntmps108
 go_wp2_with(go_at_call 88;refine be (CON _ (m.below (qK w _ _))) λw1 d=>?_;obtain⟨q,y⟩:=qk d;have z:w.1.size+1<w1.1.size:=(by have:=d.size;simp at this;omega);simp only[vV])
 refine bj (by simp[go_sem,q]<;>rfl) rfl ⟨rfl, ?_⟩;exact(((qg (qK w _ _) d).setCell uc _).setCell uc _).setCell uc _
theorem vrm(w:Ao)(ps:List Pr)(ev:Ap)(a:Option Addr)(n c:Nat)(vs:List V)(t:Tm)(m:EvArg w ev ps)(ho:t.op=1):kU w ps ev (C a n c) vs t:=by
 have f:ofT ps vs t=iV t.K:=by simp[ofT,ho]
 unfold kU;rw[f];have CON:=qd (λw1=>kF t.K w1);obtain⟨u,q,s,rfl⟩:=m.slice;unfold tmV;rw[ho];go_enter func108,ntmps108
 go_wp2_with(go_at_call 89;refine be (CON _) λw1 d=>?_;obtain⟨l,x⟩:=qk d;have y:w.1.size+1<w1.1.size:=(by have:=d.size;simp at this;omega);simp only[vV])
 refine bj (by simp[go_sem,l]<;>rfl) rfl ⟨rfl, ?_⟩;exact(((qg (qK w _ _) d).setCell uc _).setCell uc _).setCell uc _
theorem vrn(w:Ao)(ps:List Pr)(ev:Ap)(a:Option Addr)(n c:Nat)(vs:List V)(t:Tm)(m:EvArg w ev ps)(ho:t.op=2):kU w ps ev (C a n c) vs t:=by
 have f:ofT ps vs t=tV t.V:=by simp[ofT,ho]
 unfold kU;rw[f];have CON:=qd (λw1=>vbf (BS t.V) w1);obtain⟨u,q,s,rfl⟩:=m.slice;unfold tmV;rw[ho];go_enter func108,ntmps108
 go_wp2_with(go_at_call 90;refine be (CON _) λw1 d=>?_;obtain⟨l,x⟩:=qk d;have y:w.1.size+1<w1.1.size:=(by have:=d.size;simp at this;omega);simp only[vV])
 refine bj (by simp[go_sem,l]<;>rfl) rfl ⟨rfl, ?_⟩;exact(((qg (qK w _ _) d).setCell uc _).setCell uc _).setCell uc _
theorem vro(w:Ao)(ps:List Pr)(ev:Ap)(a:Option Addr)(n c:Nat)(vs:List V)(t:Tm)(m:EvArg w ev ps)(ho:t.op=3):kU w ps ev (C a n c) vs t:=by
 have f:ofT ps vs t=bV true:=by simp[ofT,ho]
 unfold kU;rw[f];have CON:=qd (λw1=>zF true w1);obtain⟨u,q,s,rfl⟩:=m.slice;unfold tmV;rw[ho];go_enter func108,ntmps108
 go_wp2_with(go_at_call 91;refine be (CON _) λw1 d=>?_;obtain⟨l,x⟩:=qk d;have y:w.1.size+1<w1.1.size:=(by have:=d.size;simp at this;omega);simp only[vV])
 refine bj (by simp[go_sem,l]<;>rfl) rfl ⟨rfl, ?_⟩;exact(((qg (qK w _ _) d).setCell uc _).setCell uc _).setCell uc _
theorem vrp(w:Ao)(ps:List Pr)(ev:Ap)(a:Option Addr)(n c:Nat)(vs:List V)(t:Tm)(m:EvArg w ev ps)(ho:t.op=4):kU w ps ev (C a n c) vs t:=by
 have f:ofT ps vs t=bV false:=by simp[ofT,ho]
 unfold kU;rw[f];have CON:=qd (λw1=>zF false w1);obtain⟨u,q,s,rfl⟩:=m.slice;unfold tmV;rw[ho];go_enter func108,ntmps108
 go_wp2_with(go_at_call 91;refine be (CON _) λw1 d=>?_;obtain⟨l,x⟩:=qk d;have y:w.1.size+1<w1.1.size:=(by have:=d.size;simp at this;omega);simp only[vV])
 refine bj (by simp[go_sem,l]<;>rfl) rfl ⟨rfl, ?_⟩;exact(((qg (qK w _ _) d).setCell uc _).setCell uc _).setCell uc _
theorem vqg(w:Ao)(ps:List Pr)(ev:Ap)(vb n c:Nat)(vs:List V)(t:Tm)(E:∃a n c,ev=C a n c)(hv:ValsAt w vb n vs)(L:vb<w.1.size)(z:t.left<n)(s:t.V.length<=200)(q:(vs.getD t.left nV).V.length<=1000)(ho:t.op=22):kU w ps ev (C (G ⟨vb,0,O⟩) n c) vs t:=by
 have u:ofT ps vs t=qbu (vs.getD t.left nV) t.V t.h:=by simp[ofT,ho]
 unfold kU;rw[u];obtain⟨m,l,f⟩:=hv t.left z;have CON:=qd (λw1=>vbe (vs.getD t.left nV) (BS t.V) (BS t.h) (by rw[qJ];exact s) q w1);simp only[xB]at CON;obtain⟨R,B⟩:∃r,qbu (vs.getD t.left nV) t.V t.h=r:=⟨_,rfl⟩;rw[B]at CON |-;obtain⟨X,y⟩:∃x,vs.getD t.left nV=x:=⟨_,rfl⟩;rw[y]at CON m l f;obtain⟨I,F,H,rfl⟩:=E;unfold tmV;rw[ho];go_enter func108,ntmps108
 go_wp2
 go_region_with((go_at_call 127;refine be (CON _) λw1 d=>?_;obtain⟨D,J⟩:=qk d;have K:w.1.size+1<w1.1.size:=(by have:=d.size;simp at this;omega);simp only[vV]))
 all_goals go_wp2
 all_goals
  refine bj (by simp[go_sem,D]<;>rfl) rfl ⟨rfl, ?_⟩;exact(((qg (qK w _ _).drew d).setCell uc _).setCell uc _).setCell uc _
theorem vrq(w:Ao)(ps:List Pr)(ev:Ap)(vb n c:Nat)(vs:List V)(t:Tm)(C8:∃a n c,ev=C a n c)(hv:ValsAt w vb n vs)(A1:vb<w.1.size)(S:t.left<n)(Q:t.right<n)(T:Rng (vs.getD t.left nV).K)(AZ:Rng (vs.getD t.right nV).K)(K:¬t.op=0)(H:¬t.op=1)(F:¬t.op=2)(E:¬t.op=3)(D:¬t.op=4)(f:¬t.op=22):kU w ps ev (C (G ⟨vb,0,O⟩) n c) vs t:=by
 have L:ofT ps vs t=jY t.op (vs.getD t.left nV) (vs.getD t.right nV):=by simp[ofT,K,H,F,E,D,f]
 unfold kU;rw[L];obtain⟨B,z,y⟩:=hv t.left S;obtain⟨u,s,q⟩:=hv t.right Q;have CON:=qd (λw1=>qsz (t.op:Int) (vs.getD t.left nV) (vs.getD t.right nV) T AZ w1);obtain⟨R,U⟩:∃r,jY t.op (vs.getD t.left nV) (vs.getD t.right nV)=r:=⟨_,rfl⟩;rw[U]at CON |-;obtain⟨X,N⟩:∃x,vs.getD t.left nV=x:=⟨_,rfl⟩;rw[N]at CON B z y;obtain⟨Ad,M⟩:∃x,vs.getD t.right nV=x:=⟨_,rfl⟩;rw[M]at CON u s q;obtain⟨ea,en,ec,rfl⟩:=C8;unfold tmV
 have l:JS w.1.size vb t X Ad ((w.alloc (Al #[I J t.op,I J t.left,I J t.right,I J t.K,Y (BS t.V),Y (BS t.h)] 187)).alloc (Al #[I J 0,I J 0,Y ⟨#[]⟩] 57)).drew:=by
  refine⟨?_, ?_, ?_, ?_, ?_, ?_, ?_, ?_, ?_⟩<;>simp[go_sem, *]
 go_enter func108,ntmps108
 go_wp2
 go_region_held3 (λw'=>Xc w' w.1.size 0 (I J t.op)/\Xc w' w.1.size 1 (I J t.left)/\Xc w' w.1.size 2 (I J t.right)/\Xc w' vb (t.left * 3) (I J X.A)/\Xc w' vb (t.left * 3+1) (I J X.K)/\Xc w' vb (t.left * 3+2) (Y (BS X.V))/\Xc w' vb (t.right * 3) (I J Ad.A)/\Xc w' vb (t.right * 3+1) (I J Ad.K)/\Xc w' vb (t.right * 3+2) (Y (BS Ad.V))) (first|exact l|exact m|exact vdy m ub ub) ((go_at_call 128;refine be (CON _) λw1 d=>?_;obtain⟨Z,G8⟩:=qk d;have B8:w.1.size+1<w1.1.size:=(by have:=d.size;simp at this;omega);have m:=vdx l d ud ud;simp only[vV]))
 all_goals go_wp2
 all_goals
  refine bj (by simp[go_sem,Z]<;>rfl) rfl ⟨rfl, ?_⟩;exact(((qg (qK w _ _).drew d).setCell uc _).setCell uc _).setCell uc _
theorem qy3(p:CP)(ho:p.op=3):pR (.leaf p):=by
 intro B w v l f h;have hv:vg (.leaf p)=.leaf (qq 4):=by unfold vg;rw[ho];rfl
 rw[hv];have S:=qd (xx (qq 4) rfl (show Rng 0 from⟨ue,ue⟩) (bt _) (bt _) l f);replace S:Hid (ua 144 #[Ai #[I J 4,Ag O,Ag O,I J 0,Y ⟨#[]⟩,Y ⟨#[]⟩,Y ⟨#[]⟩]] w λe w'=>∃b,e=Ak (Ag (G ⟨b,0,O⟩))/\CoAt B w'.1.size w' (Ag (G ⟨b,0,O⟩)) (.leaf (qq 4))/\Xb w w'):=S;obtain⟨b,rfl,d⟩:=h;have c0:=d.c0;unfold at0;go_enter func142,ntmps142
 go_wp2_with(go_at_call 144;refine S.mono ?_;rintro e w1⟨b1,rfl,m,q⟩)
 go_ret;exact⟨b1,rfl,m,q⟩
theorem qy4(p:CP)(ho:p.op=4):pR (.leaf p):=by
 intro B w v l f h;have hv:vg (.leaf p)=.leaf (qq 3):=by unfold vg;rw[ho];rfl
 rw[hv];have S:=qd (xx (qq 3) rfl (show Rng 0 from⟨ue,ue⟩) (bt _) (bt _) l f);replace S:Hid (ua 144 #[Ai #[I J 3,Ag O,Ag O,I J 0,Y ⟨#[]⟩,Y ⟨#[]⟩,Y ⟨#[]⟩]] w λe w'=>∃b,e=Ak (Ag (G ⟨b,0,O⟩))/\CoAt B w'.1.size w' (Ag (G ⟨b,0,O⟩)) (.leaf (qq 3))/\Xb w w'):=S;obtain⟨b,rfl,d⟩:=h;have c0:=d.c0;unfold at0;go_enter func142,ntmps142
 go_wp2_with(go_at_call 144;refine S.mono ?_;rintro e w1⟨b1,rfl,m,q⟩)
 go_ret;exact⟨b1,rfl,m,q⟩
theorem qgw(c:Co)(p:CP)(d:(qt c).length<=1000000000)(hv:vg c=.un (qq 5) c)
  (y:∀B E w v,CoAt B E w v c->∃b l r,v=at0 b/\CellsC B E w b p l r (qt c)) (x:¬p.op=3) (u:¬p.op=4) (s:¬p.op=6) (D:¬p.op=7) (N:¬p.op=10) (M:¬p.op=11) (F:¬p.op=5):pR c:=by
 intro B w v q m h;rw[hv];obtain⟨b,l,r,rfl,f⟩:=y _ _ _ _ h
 have S:Hid (ua 144 #[Ai #[I J 5,Ag (G ⟨b,0,O⟩),Ag O,I J 0,Y ⟨#[]⟩,Y ⟨#[]⟩,Y ⟨#[]⟩]] w λe w'=>∃b,e=Ak (Ag (G ⟨b,0,O⟩))/\CoAt B w'.1.size w' (Ag (G ⟨b,0,O⟩)) (.un (qq 5) c)/\Xb w w'):=
  qd (pL (qq 5) rfl (show Rng 0 from⟨ue,ue⟩) (bt _) (bt _) q m h d)
 have c0:=f.c0;unfold at0;have L:(p.op==3)=false:=bh.2 x;have K:(p.op==4)=false:=bh.2 u;have H:(p.op==6)=false:=bh.2 s;go_enter func142,ntmps142
 go_wp2_with(go_at_call 144;refine S.mono ?_;rintro e w1⟨b1,rfl,z,C⟩)
 go_ret;exact⟨b1,rfl,z,C⟩
theorem vkq(p:CP)(x:Co)(ho:p.op=5)(f:¬opC x=0):pR (.un p x):=by
 intro B w v G F h;have hv:vg (.un p x)=x:=by unfold vg;rw[ho,bo];rw[dh];exact⟨rfl,by simpa using f⟩
 rw[hv];obtain⟨b,z,rfl,l,d⟩:=h;obtain⟨s,D,E,C,rfl,u,q⟩:=d.head;have c0:=l.c0;have c1:=l.c1;have m:=q.c0;rw[u]at m;have H:(opC x != 0)=true:=by simpa using f
 unfold at0 at c1 d |-;have y:=qd d;go_enter func142,ntmps142
 go_wp2
 go_ret;exact⟨s,rfl,q9 y,uj⟩
theorem ven(p:CP)(x:Co)(ho:p.op=5)(d:opC x=0)(q:(qt (.un p x)).length<=1000000000):pR (.un p x):=by
 intro B w v y u h;have hv:vg (.un p x)=.un (qq 5) (.un p x):=by unfold vg;rw[d,ak];rw[dh];rintro⟨_,h⟩;cases h
 rw[hv];have H:=h;obtain⟨b,E,rfl,f,s⟩:=h
 have S:Hid (ua 144 #[Ai #[I J 5,Ag (G ⟨b,0,O⟩),Ag O,I J 0,Y ⟨#[]⟩,Y ⟨#[]⟩,Y ⟨#[]⟩]] w λe w'=>∃b,e=Ak (Ag (G ⟨b,0,O⟩))/\CoAt B w'.1.size w' (Ag (G ⟨b,0,O⟩)) (.un (qq 5) (.un p x))/\Xb w w'):=
  qd (pL (qq 5) rfl (show Rng 0 from⟨ue,ue⟩) (bt _) (bt _) y u H q)
 obtain⟨M,K,L,F,rfl,z,m⟩:=s.head;have c0:=f.c0;have c1:=f.c1;have l:=m.c0;rw[z,d]at l;unfold at0 at c1 |-;go_enter func142,ntmps142
 go_wp2_with(go_at_call 144;refine S.mono ?_;rintro e w1⟨b1,rfl,C,D⟩)
 go_ret;exact⟨b1,rfl,C,D⟩
theorem vel(p:CP)(x y:Co)(ho:p.op=6)(T:pR x)(S:pR y)(N:(qt (vg x)).length<=1000000000)(M:(qt (vg y)).length<=1000000000):pR (.bin p x y):=by
 intro B w v C z h;have hv:vg (.bin p x y)=qp 7 (vg x) (vg y):=by rw[vg,ho];rfl
 rw[hv];obtain⟨b,vx,vy,rfl,l,H,F⟩:=h;obtain⟨D,rfl⟩:=H.ptr;obtain⟨d,rfl⟩:=F.ptr;have c0:=l.c0;have c1:=l.c1;have c2:=l.c2;have f:=l.within
 have NX:Hid (∀w1,Xb w w1->ua 142 #[Ag (G ⟨D,0,O⟩)] w1 λe w'=>∃b,e=Ak (Ag (G ⟨b,0,O⟩))/\CoAt B w'.1.size w' (Ag (G ⟨b,0,O⟩)) (vg x)/\Xb w1 w'):=
  qd (λw1 hb=>T B w1 _ (bs C hb.size) (z.below hb ui) (H.below hb))
 have NY:Hid (∀w1,Xb w w1->ua 142 #[Ag (G ⟨d,0,O⟩)] w1 λe w'=>∃b,e=Ak (Ag (G ⟨b,0,O⟩))/\CoAt B w'.1.size w' (Ag (G ⟨b,0,O⟩)) (vg y)/\Xb w1 w'):=
  qd (λw1 hb=>S B w1 _ (bs C hb.size) (z.below hb ui) (F.below hb))
 have PR:Hid (∀w1 u s,Xb w w1->CoAt B w1.1.size w1 u (vg x)->CoAt B w1.1.size w1 s (vg y)->ua 140 #[I J 7,u,s] w1 λe w'=>∃b,e=Ak (Ag (G ⟨b,0,O⟩))/\CoAt B w'.1.size w' (Ag (G ⟨b,0,O⟩)) (qp 7 (vg x) (vg y))/\Xb w1 w'):=
  qd (λw1 u s hb Y U=>jb 7 (bs C hb.size) (z.below hb ui) Y U N M)
 have K:Hid (Xb w w.drew):=qd uj.drew;unfold at0 at c1 c2 |-;have e6:(p.op==6)=true:=by rw[ho];rfl
 go_enter func142,ntmps142
 go_wp2
 go_region_held3 (λW=>Xc W b 1 (Ag (G ⟨D,0,O⟩))/\Xc W b 2 (Ag (G ⟨d,0,O⟩))) (go_keep) (first|(go_at_call_of 142 (Ag (G { block:=D,off:=0 }));refine(NX _ K).mono ?_;rintro e w1⟨b1,rfl,k1,A0⟩;have q:=qd (qg K A0);have d1:=(q.cell (p:=⟨b,1,O⟩) f).trans c1;have d2:=(q.cell (p:=⟨b,2,O⟩) f).trans c2;have K1:=qd k1)|(go_at_call_of 142 (Ag (G { block:=d,off:=0 }));refine(NY _ q).mono ?_;rintro e w2⟨b2,rfl,R,L⟩;have m:=qd (qg q L);have d3:=(m.cell (p:=⟨b,1,O⟩) f).trans c1;have d4:=(m.cell (p:=⟨b,2,O⟩) f).trans c2;have MI:=qd (K1.below L);have K2:=qd R)|(go_at_call 140;refine(PR _ _ _ m MI K2).mono ?_;rintro e w3⟨Z,rfl,Q,D5⟩;have E:=qd (qg m D5);have d5:=(E.cell (p:=⟨b,1,O⟩) f).trans c1;have d6:=(E.cell (p:=⟨b,2,O⟩) f).trans c2;have K3:=qd Q))
 all_goals(go_wp2;go_ret;exact⟨Z,rfl,q9 K3,q9 E⟩)
theorem vem(p:CP)(x y:Co)(ho:p.op=7)(T:pR x)(S:pR y)(N:(qt (vg x)).length<=1000000000)(M:(qt (vg y)).length<=1000000000):pR (.bin p x y):=by
 intro B w v C z h;have hv:vg (.bin p x y)=qp 6 (vg x) (vg y):=by rw[vg,ho];rfl
 rw[hv];obtain⟨b,vx,vy,rfl,l,H,F⟩:=h;obtain⟨D,rfl⟩:=H.ptr;obtain⟨d,rfl⟩:=F.ptr;have c0:=l.c0;have c1:=l.c1;have c2:=l.c2;have f:=l.within
 have NX:Hid (∀w1,Xb w w1->ua 142 #[Ag (G ⟨D,0,O⟩)] w1 λe w'=>∃b,e=Ak (Ag (G ⟨b,0,O⟩))/\CoAt B w'.1.size w' (Ag (G ⟨b,0,O⟩)) (vg x)/\Xb w1 w'):=
  qd (λw1 hb=>T B w1 _ (bs C hb.size) (z.below hb ui) (H.below hb))
 have NY:Hid (∀w1,Xb w w1->ua 142 #[Ag (G ⟨d,0,O⟩)] w1 λe w'=>∃b,e=Ak (Ag (G ⟨b,0,O⟩))/\CoAt B w'.1.size w' (Ag (G ⟨b,0,O⟩)) (vg y)/\Xb w1 w'):=
  qd (λw1 hb=>S B w1 _ (bs C hb.size) (z.below hb ui) (F.below hb))
 have PR:Hid (∀w1 u s,Xb w w1->CoAt B w1.1.size w1 u (vg x)->CoAt B w1.1.size w1 s (vg y)->ua 140 #[I J 6,u,s] w1 λe w'=>∃b,e=Ak (Ag (G ⟨b,0,O⟩))/\CoAt B w'.1.size w' (Ag (G ⟨b,0,O⟩)) (qp 6 (vg x) (vg y))/\Xb w1 w'):=
  qd (λw1 u s hb Y U=>jb 6 (bs C hb.size) (z.below hb ui) Y U N M)
 have K:Hid (Xb w w.drew):=qd uj.drew;unfold at0 at c1 c2 |-;go_enter func142,ntmps142
 go_wp2
 go_region_held3 (λW=>Xc W b 1 (Ag (G ⟨D,0,O⟩))/\Xc W b 2 (Ag (G ⟨d,0,O⟩))) (go_keep) (first|(go_at_call_of 142 (Ag (G { block:=D,off:=0 }));refine(NX _ K).mono ?_;rintro e w1⟨b1,rfl,k1,A0⟩;have q:=qd (qg K A0);have d1:=(q.cell (p:=⟨b,1,O⟩) f).trans c1;have d2:=(q.cell (p:=⟨b,2,O⟩) f).trans c2;have K1:=qd k1)|(go_at_call_of 142 (Ag (G { block:=d,off:=0 }));refine(NY _ q).mono ?_;rintro e w2⟨b2,rfl,R,L⟩;have m:=qd (qg q L);have d3:=(m.cell (p:=⟨b,1,O⟩) f).trans c1;have d4:=(m.cell (p:=⟨b,2,O⟩) f).trans c2;have MI:=qd (K1.below L);have K2:=qd R)|(go_at_call 140;refine(PR _ _ _ m MI K2).mono ?_;rintro e w3⟨Z,rfl,Q,D5⟩;have E:=qd (qg m D5);have d5:=(E.cell (p:=⟨b,1,O⟩) f).trans c1;have d6:=(E.cell (p:=⟨b,2,O⟩) f).trans c2;have K3:=qd Q))
 all_goals(go_wp2;go_ret;exact⟨Z,rfl,q9 K3,q9 E⟩)
theorem qy1(p:CP)(x y:Co)(ho:p.op=10)(D:(qt x).length<=1000000000)(C:(qt y).length<=1000000000):pR (.bin p x y):=by
 intro B w v H F h;have hv:vg (.bin p x y)=qp 11 y x:=by rw[vg,ho];rfl
 rw[hv];obtain⟨b,S,R,rfl,f,q,m⟩:=h;obtain⟨s,rfl⟩:=q.ptr;obtain⟨d,rfl⟩:=m.ptr;have c0:=f.c0;have c1:=f.c1;have c2:=f.c2;have z:=f.within
 have L:Hid (∀w1,Xb w w1->ua 140 #[I J 11,Ag (G ⟨d,0,O⟩),Ag (G ⟨s,0,O⟩)] w1 λe w'=>∃b,e=Ak (Ag (G ⟨b,0,O⟩))/\CoAt B w'.1.size w' (Ag (G ⟨b,0,O⟩)) (qp 11 y x)/\Xb w1 w'):=
  qd (λw1 hb=>jb 11 (bs H hb.size) (F.below hb ui) (m.below hb) (q.below hb) C D)
 have u:Hid (Xb w w.drew):=qd uj.drew;unfold at0 at c1 c2 |-;go_enter func142,ntmps142
 go_wp2
 go_region_held3 (λW=>Xc W b 1 (Ag (G ⟨s,0,O⟩))/\Xc W b 2 (Ag (G ⟨d,0,O⟩))) (go_keep) (first|(go_at_call 140;refine(L _ u).mono ?_;rintro e Q⟨K,rfl,E,N⟩;have l:=qd (qg u N);have U:=(l.cell (p:=⟨b,1,O⟩) z).trans c1;have T:=(l.cell (p:=⟨b,2,O⟩) z).trans c2;have M:=qd E))
 all_goals(go_wp2;go_ret;exact⟨K,rfl,q9 M,q9 l⟩)
theorem qy2(p:CP)(x y:Co)(ho:p.op=11)(D:(qt x).length<=1000000000)(C:(qt y).length<=1000000000):pR (.bin p x y):=by
 intro B w v H F h;have hv:vg (.bin p x y)=qp 10 y x:=by rw[vg,ho];rfl
 rw[hv];obtain⟨b,S,R,rfl,f,q,m⟩:=h;obtain⟨s,rfl⟩:=q.ptr;obtain⟨d,rfl⟩:=m.ptr;have c0:=f.c0;have c1:=f.c1;have c2:=f.c2;have z:=f.within
 have L:Hid (∀w1,Xb w w1->ua 140 #[I J 10,Ag (G ⟨d,0,O⟩),Ag (G ⟨s,0,O⟩)] w1 λe w'=>∃b,e=Ak (Ag (G ⟨b,0,O⟩))/\CoAt B w'.1.size w' (Ag (G ⟨b,0,O⟩)) (qp 10 y x)/\Xb w1 w'):=
  qd (λw1 hb=>jb 10 (bs H hb.size) (F.below hb ui) (m.below hb) (q.below hb) C D)
 have u:Hid (Xb w w.drew):=qd uj.drew;unfold at0 at c1 c2 |-;go_enter func142,ntmps142
 go_wp2
 go_region_held3 (λW=>Xc W b 1 (Ag (G ⟨s,0,O⟩))/\Xc W b 2 (Ag (G ⟨d,0,O⟩))) (go_keep) (first|(go_at_call 140;refine(L _ u).mono ?_;rintro e Q⟨K,rfl,E,N⟩;have l:=qd (qg u N);have U:=(l.cell (p:=⟨b,1,O⟩) z).trans c1;have T:=(l.cell (p:=⟨b,2,O⟩) z).trans c2;have M:=qd E))
 all_goals(go_wp2;go_ret;exact⟨K,rfl,q9 M,q9 l⟩)
theorem qjg:∀c,WfC c->(qt c).length+7 * uC c<=1000000000->pR c:=by
 intro c
 induction c with
 | leaf p=>
  intro d u
  by_cases s:p.op=3
  .exact qy3 p s
  by_cases q:p.op=4
  .exact qy4 p q
  have H:p.op=0\/p.op=1\/p.op=2:=by
   have:js p.op=true:=d;unfold js at this;simp only[ff,ew]at this;omega
  refine qgw _ p ub ?_ (λB E w v h=>by obtain⟨b,rfl,m⟩:=h;exact⟨b,_,_,rfl,m⟩) s q ub ub ub ub ub;unfold vg;rw[ak (by simpa using s),ak (by simpa using q)]
 | un p x ih=>
  intro d u
  have f:p.op=5\/p.op=22\/p.op=23:=by
   have:unB p.op=true:=d.1;unfold unB at this;simp only[ff,ew]at this;omega
  by_cases l:p.op=5
  .by_cases i6:opC x=0
   exact ven p x l i6 ub;exact vkq p x l i6
  refine qgw _ p ub ?_ (λB E w v h=>by obtain⟨b,z,rfl,m,_⟩:=h;exact⟨b,_,_,rfl,m⟩) ub ub ub ub ub ub l;unfold vg;rw[ak];rw[dh];rintro⟨h,_⟩;exact l (eq_of_beq h)
 | bin p x y ihx ihy=>
  intro d u;have G:=jH d.1 x y;have F:=zE x d.2.1;have D:=zE y d.2.2;have f:uC (.bin p x y)=if(p.op==6||p.op==7)=true then uC x+uC y else 1:=rfl
  by_cases h6:p.op=6
  .rw[h6]at f
   have f:uC (.bin p x y)=uC x+uC y:=f;exact vel p x y h6 (ihx d.2.1 ub) (ihy d.2.2 ub) ub ub
  by_cases h7:p.op=7
  .rw[h7]at f
   have f:uC (.bin p x y)=uC x+uC y:=f;exact vem p x y h7 (ihx d.2.1 ub) (ihy d.2.2 ub) ub ub
  by_cases O5:p.op=10
  .exact qy1 p x y O5 ub ub
  by_cases S3:p.op=11
  .exact qy2 p x y S3 ub ub
  have hb:=d.1;unfold qrz js unB at hb;simp only[dh,Bool.not_eq_true',ii,bh]at hb;obtain⟨⟨⟨⟨⟨_,_⟩,_⟩,s⟩,q⟩,⟨l,_⟩,_⟩:=hb;refine qgw _ p ub ?_ (λB E w v h=>by obtain⟨b,z,C,rfl,m,_⟩:=h;exact⟨b,_,_,rfl,m⟩) s q h6 h7 O5 S3 l;unfold vg;rw[ak (by simpa using h6),ak (by simpa using h7),ak (by simpa using O5),ak (by simpa using S3)]
structure Mg where
 pri:Int
 K:Int
def bef(x y:Mg):Bool:=if x.pri != y.pri then decide (y.pri<x.pri) else decide (x.K<y.K)
def mgV(x:Mg):Ap:=Ai #[I J x.pri,I J x.K]
theorem qve(x y:Mg)(w:Ao):ut 200 #[mgV x,mgV y] w (Ah (bef x y)):=by
 unfold mgV
 by_cases h:x.pri=y.pri
 .have hb:bef x y=decide (x.K<y.K):=by simp[bef,h]
  have hd:(x.pri != y.pri)=false:=by simp[h]
  rw[hb];go_enter func200,ntmps200
  go_wp2
  go_ret;exact⟨rfl,qK w _ _⟩
 have hb:bef x y=decide (y.pri<x.pri):=by simp[bef,h]
 rw[hb];go_enter func200,ntmps200
 go_wp2
 go_ret;exact⟨rfl,qK w _ _⟩
theorem qv2(k:Nat)(d:k<=1000)(w:Ao):ua 165 #[I J ((k+1:Nat):Int)] w λe w'=>e=Ak (I J ((k / 2:Nat):Int))/\w'=w:=by
 go_enter func165,ntmps165
 go_wp2
 go_ret;exact⟨rfl,rfl⟩
def MgBlk(w:Ao)(g cap:Nat):Prop:=cap<=maxLen/\∃cur:Array Ap,w.1[g]?=G (Al cur 142 (0,0))/\cur.size=cap * 2
theorem MgBlk.same(h:MgBlk w g cap)(hb:w'.1[g]?=w.1[g]?):MgBlk w' g cap:=by
 obtain⟨d,cur,l,f⟩:=h;exact⟨d,cur,hb.trans l,f⟩
theorem MgBlk.set(h:MgBlk w g cap)(o:Nat)(v:Ap):MgBlk (w.setCell ⟨g,o,O⟩ v) g cap:=by
 obtain⟨d,cur,l,f⟩:=h;refine⟨d,cur.setIfInBounds o v, ?_,by simpa using f⟩;simp[World.setCell,ij,l]
structure HpAt(w:Ao)(hb ho g cap:Nat)(ms:List Mg):Prop where
 c:w.cell? ⟨hb,ho,O⟩=G (C (G ⟨g,0,O⟩) ms.length cap)
 fz:w.frozen? ⟨hb,ho,O⟩=false
 ne:g≠hb
 lt:hb<w.1.size
 glt:g<w.1.size
 pri:∀(i:Nat) (m:Mg),ms[i]?=G m->w.cell? ⟨g,i * 2,O⟩=G (I J m.pri)/\w.cell? ⟨g,i * 2+1,O⟩=G (I J m.K)
 gfz:∀j,w.frozen? ⟨g,j,O⟩=false
 blk:MgBlk w g cap
 room:ms.length<=cap
theorem HpAt.below{ms:List Mg}(h:HpAt w hb ho g cap ms)(d:Xb w w'):HpAt w' hb ho g cap ms:=by
 obtain⟨f,p⟩:=qk d;exact⟨(f hb ho h.lt).trans h.c,(p hb ho h.lt).trans h.fz,h.ne,aq h.lt d.size,aq h.glt d.size,λi m l=>⟨(f g _ h.glt).trans (h.pri i m l).1,(f g _ h.glt).trans (h.pri i m l).2⟩,λj=>(p g j h.glt).trans (h.gfz j),h.blk.same (d.block g h.glt),h.room⟩
theorem HpAt.swap{ms:List Mg}(h:HpAt w hb ho g cap ms){x y:Mg}(l:ms[i]?=G x)(f:ms[j]?=G y)(F:i≠j):
  HpAt ((((w.setCell ⟨g,i * 2,O⟩ (I J y.pri)).setCell ⟨g,i * 2+1,O⟩ (I J y.K)).setCell ⟨g,j * 2,O⟩ (I J x.pri)).setCell ⟨g,j * 2+1,O⟩ (I J x.K)) hb ho g cap ((ms.set i y).set j x):=by
 obtain⟨c,fz,z,lt,glt,cells,gfz,blk,room⟩:=h;obtain⟨u,s⟩:=cells i x l;obtain⟨q,p⟩:=cells j y f;have E:i<ms.length:=(aj.1 l).1;have D:j<ms.length:=(aj.1 f).1;refine⟨by simp[go_sem,c],by simp[go_sem,fz],z,by simpa using lt,by simpa using glt,λk m d=>?_,λj=>by simp[go_sem,gfz],(((blk.set _ _).set _ _).set _ _).set _ _,by simpa using room⟩
 by_cases hkj:k=j
 .subst hkj
  rw[mw (by simpa using D)]at d;simp at d;subst d;constructor<;>simp[go_sem,q,p]
 rw[nz (λe=>hkj e.symm)]at d
 by_cases hki:k=i
 .subst hki
  rw[mw E]at d;simp at d;subst d;constructor<;>simp[go_sem,u,s]
 rw[nz (λe=>hki e.symm)]at d;obtain⟨C,B⟩:=cells k m d;constructor<;>simp[go_sem,C,B]
theorem qrf(hb ho g cap:Nat)(ms:List Mg)(i j:Nat)(x y:Mg)(f:ms[i]?=G x)(d:ms[j]?=G y)(l:i≠j)(w:Ao)(h:HpAt w hb ho g cap ms):
  ua 163 #[Ag (G ⟨hb,ho,O⟩),I J i,I J j] w λe w'=>e=Ak (Aj #[])/\HpAt w' hb ho g cap ((ms.set i y).set j x)/\Kept g w w':=by
 have s:=qd ((h.below uj.drew).swap f d l);obtain⟨c,fz,E,lt,glt,cells,gfz,blk,room⟩:=h;obtain⟨D,C⟩:=cells i x f;obtain⟨B,z⟩:=cells j y d;have q:i<ms.length:=(aj.1 f).1;have p:j<ms.length:=(aj.1 d).1;obtain⟨n,m⟩:=it ms.length;rw[m]at c q p;have F:¬j=i:=λe=>l e.symm
 have u:Hid (Kept g w ((((w.setCell ⟨g,i * 2,O⟩ (I J y.pri)).setCell ⟨g,i * 2+1,O⟩ (I J y.K)).setCell ⟨g,j * 2,O⟩ (I J x.pri)).setCell ⟨g,j * 2+1,O⟩ (I J x.K)).drew):=qd (((((Kept.refl g w).setCell _ _).setCell _ _).setCell _ _).setCell _ _).drew;clear cells f d m l blk room;go_enter func163,ntmps163
 go_region
 all_goals go_wp2
 all_goals exact bodyPost_end (results_none rfl _ _ _) rfl ⟨rfl,q9 s,q9 u⟩
def BS5(hb ho g n cap i j:Nat)(x y:Mg)(w':Ao):Prop:=w'.cell? ⟨hb,ho,O⟩=G (C (G ⟨g,0,O⟩) n cap)/\w'.cell? ⟨g,i * 2,O⟩=G (I J x.pri)/\w'.cell? ⟨g,i * 2+1,O⟩=G (I J x.K)/\w'.cell? ⟨g,j * 2,O⟩=G (I J y.pri)/\w'.cell? ⟨g,j * 2+1,O⟩=G (I J y.K)
theorem HpAt.bs5{ms:List Mg}(h:HpAt w hb ho g cap ms){x y:Mg}(f:ms[i]?=G x)(d:ms[j]?=G y):BS5 hb ho g ms.length cap i j x y w:=
 ⟨h.c,(h.pri i x f).1,(h.pri i x f).2,(h.pri j y d).1,(h.pri j y d).2⟩
theorem qer(hb ho g cap:Nat)(ms:List Mg)(i j:Nat)(x y:Mg)(f:ms[i]?=G x)(d:ms[j]?=G y)(w:Ao)(h:HpAt w hb ho g cap ms):
  ut 164 #[Ag (G ⟨hb,ho,O⟩),I J i,I J j] w (Ah (bef x y)):=by
 have B:i<ms.length:=(aj.1 f).1;have z:j<ms.length:=(aj.1 d).1;have l:=(h.below uj.drew).bs5 f d;have m:Hid (∀w',Xb w w'->BS5 hb ho g ms.length cap i j x y w'):=qd λw' D=>(h.below D).bs5 f d
 obtain⟨n,u⟩:=it ms.length;rw[u]at l m B z;unfold BS5 at l;have p:=qd (λw=>qve x y w);unfold mgV at p;go_enter func164,ntmps164
 go_wp2
 go_region_held3 (λw'=>Xc w' hb ho (C (G ⟨g,0,O⟩) n cap)/\Xc w' g (i * 2) (I J x.pri)/\Xc w' g (i * 2+1) (I J x.K)/\Xc w' g (j * 2) (I J y.pri)/\Xc w' g (j * 2+1) (I J y.K)) (with_reducible assumption) ((go_at_call 200;refine be (p _) λw1 E=>?_;have q:=qd (qg (Below.refl _ w).drew E);have s:=q9 m w1 q;unfold BS5 at s))
 all_goals go_wp2
 all_goals go_ret
 all_goals exact⟨rfl,q9 q⟩
def qa7:Nat->List Mg->Nat->List Mg
 | 0,ms,_=>ms
 | _+1,ms,0=>ms
 | n+1,ms,k+1=>match ms[k+1]?,ms[k / 2]? with
  | some x,G y=>if bef x y then qa7 n ((ms.set (k+1) y).set (k / 2) x) (k / 2) else ms
  | _,_=>ms
def qjx(ms:List Mg)(k:Nat):List Mg:=qa7 (k+1) ms k
theorem qf9(n:Nat)(ms:List Mg):qa7 n ms 0=ms:=by cases n<;>rfl
theorem qf8{ms:List Mg}{x y:Mg}(f:ms[k+1]?=G x)(d:ms[k / 2]?=G y)(hb:bef x y=false):qa7 n ms (k+1)=ms:=by
 cases n with
 | zero=>rfl
 | succ n=>rw[qa7,f,d];simp[hb]
theorem qr6{ms:List Mg}{x y:Mg}(f:ms[k+1]?=G x)(d:ms[k / 2]?=G y)(hb:bef x y=true):qa7 (n+1) ms (k+1)=qa7 n ((ms.set (k+1) y).set (k / 2) x) (k / 2):=by
 rw[qa7,f,d];simp[hb]
theorem vfr(hb ho g cap:Nat)(ms:List Mg)(k:Nat)(S:k<ms.length)(Q:ms.length<=100)(w:Ao)(h:HpAt w hb ho g cap ms):
  ua 117 #[Ag (G ⟨hb,ho,O⟩),I J k] w λe w'=>e=Ak (Aj #[])/\HpAt w' hb ho g cap (qjx ms k)/\Kept g w w':=by
 obtain⟨R,H⟩:=it (qjx ms k);rw[H];have HR:Hid (R=qa7 (k+1) ms k):=qd H.symm;have H0:=qd h;have N:Hid (k<ms.length):=qd S;have IC:Hid (ms.length<=100):=qd Q;go_enter func117,ntmps117
 go_wp2
 go_loopw [1] (λi wr=>∃(j n:Nat) (ms':List Mg),i=I J j/\Hid (R=qa7 n ms' j)/\Hid (j<ms'.length)/\Hid (j<n)/\Hid (ms'.length<=100)/\Hid (HpAt wr hb ho g cap ms')/\Hid (Kept g w wr)) (λi _=>(intOf i).toNat)
 exact⟨k,k+1,ms,rfl,HR,N,qd (dt _),IC,H0,qd (Kept.refl _ _)⟩;obtain⟨j,n,ms',rfl,B,s,d,K,u,E⟩:=hrel
 cases j with
 | zero=>
  go_wp2
  exact bodyPost_end (results_none rfl _ _ _) rfl ⟨rfl,by rw[q9 B,qf9];exact q9 u,q9 E⟩
 | succ j=>
  obtain⟨x,q⟩:∃x,ms'[j+1]?=G x:=⟨_,ag s⟩;obtain⟨y,m⟩:∃y,ms'[j / 2]?=G y:=⟨_,ag (uu (q9 s))⟩;have T:j<=1000:=by have:=q9 s;have:=q9 K;omega
  have L:=qd (λw=>qv2 j T w);have z:=qd (λw1 (D:Xb wr w1)=>qer hb ho g cap ms' (j+1) (j / 2) x y q m w1 (u.below D))
  cases hbef:bef x y with
  | false=>
   rw[hbef]at z;have C:=qd (qf8 (n:=n) q m hbef)
   go_wp2_with(first|(go_at_call 164;refine be (z _ uj) λw2 F=>?_;have f:=qd F)|(go_at_call 165;refine be (L _) ?_;rintro w1 rfl))
   exact bodyPost_end (results_none rfl _ _ _) rfl ⟨rfl,by rw[q9 B,q9 C];exact u.below f,E.trans (Kept.of_below f)⟩
  | true=>
   rw[hbef]at z;obtain⟨l,rfl⟩:∃l,n=l+1:=⟨n - 1,uu (q9 d)⟩;have C:=qd (qr6 (n:=l) q m hbef);have Y:=qd (λw1 (D:Xb wr w1)=>qrf hb ho g cap ms' (j+1) (j / 2) x y q m ub w1 (u.below D));have M:Hid (((ms'.set (j+1) y).set (j / 2) x).length=ms'.length):=qd uc
   go_wp2_with(first|(go_at_call 163;refine be (Y _ f) ?_;rintro w3⟨U,D7⟩;have H3:=qd U;have Z:=qd ((E.trans (Kept.of_below f)).trans D7))|(go_at_call 164;refine be (z _ uj) λw2 F=>?_;have f:=qd F)|(go_at_call 165;refine be (L _) ?_;rintro w1 rfl))
   exact⟨⟨j / 2,l,_,rfl,qd (by rw[q9 B,q9 C]),qd (by have:=q9 s;rw[q9 M];omega),qd (uu (q9 d)),qd (by rw[q9 M];exact q9 K),H3,Z⟩,by simp[intOf];omega⟩
section
attribute [local go_sem ↓] vsk
def qU(ms:List Mg):List Ap:=ms.flatMap λm=>[I J m.pri,I J m.K]
theorem jQ(ms:List Mg):(qU ms).length=ms.length * 2:=by
 induction ms with
 | nil=>rfl
 | cons t ts ih=>rw[qU,dp,ce,<-qU,ih];simp;omega
theorem ku{ms:List Mg}{m:Mg}(h:ms[i]?=G m):(qU ms)[i * 2]?=G (I J m.pri)/\(qU ms)[i * 2+1]?=G (I J m.K):=by
 induction ms generalizing i with
 | nil=>simp at h
 | cons t ts ih=>
  rw[qU,dp,<-qU]
  cases i with
  | zero=>
   simp at h;subst h;exact⟨rfl,rfl⟩
  | succ i=>
   have:=ih (by simpa using h);rw[da (by show 2<=_;omega),da (by show 2<=_;omega),show(i+1) * 2 - [I J t.pri,I J t.K].length=i * 2 by show _ - 2=_;omega,show(i+1) * 2+1 - [I J t.pri,I J t.K].length=i * 2+1 by show _ - 2=_;omega];exact this
theorem vjs:(prog.info? 142).map (λi=>(i.zero,i.size,i.bytes))=G (G (Ai #[I J 0,I J 0]),2,16):=uh
structure HqAt(w:Ao)(hb ho:Nat)(v:Ap)(base:Nat)(ms:List Mg):Prop where
 c:w.cell? ⟨hb,ho,O⟩=G v
 fz:w.frozen? ⟨hb,ho,O⟩=false
 lt:hb<w.1.size
 own:w.ownsRow base 142 2 v ms.length (qU ms)
 ne:v.ownBlock≠G hb
theorem HqAt.form{ms:List Mg}(h:HqAt w hb ho v base ms):∃a c,v=C a ms.length c:=by
 rcases h.own.2 with⟨rfl,d⟩|⟨g,cap,cur,rfl,_⟩;exact⟨O,0,by rw[d]⟩;exact⟨_,_,rfl⟩
theorem HqAt.hp{ms:List Mg}(h:HqAt w hb ho (C (G ⟨g,0,O⟩) n cap) base ms):HpAt w hb ho g cap ms/\base<=g/\n=ms.length:=by
 have q:=h.own;rcases h.own.2 with⟨hv,_⟩|⟨B,cap',cur,hv,y,d,u,s,z,_⟩;simp at hv;simp at hv;obtain⟨rfl,rfl,rfl⟩:=hv;have x:∀j,(⟨g,0,O⟩:Addr).add j=⟨g,j,O⟩:=λj=>by unfold Addr.add;split<;>simp_all
 refine⟨⟨h.c,h.fz,λe=>h.ne (by rw[e];rfl),h.lt,(cf.1 d).1,λi m f=>?_,λj=>by simp[World.frozen?,d],⟨s,cur,d,z⟩,u⟩,y,rfl⟩;have p:=World.ownsRow.cells q (g:=g) rfl (i * 2) _ (ku f).1;have l:=World.ownsRow.cells q (g:=g) rfl (i * 2+1) _ (ku f).2;rw[x]at p l;exact⟨p,l⟩
theorem HpAt.hq{ms:List Mg}(h:HpAt w hb ho g cap ms)(u:base<=g):HqAt w hb ho (C (G ⟨g,0,O⟩) ms.length cap) base ms:=by
 obtain⟨d,cur,s,B⟩:=h.blk;have y:=h.room;refine⟨h.c,h.fz,h.lt,⟨jQ ms,An ⟨g,cap,cur,rfl,u,s,y,d,B, ?_⟩⟩,λe=>h.ne (by simpa [Value.ownBlock]using e)⟩;apply ix;intro j;have z:∀j,w.cell? ⟨g,j,O⟩=cur[j]?:=λj=>cell_of_row w g j cur _ _ s
 rw[ll]
 by_cases hj:j<ms.length * 2
 rw[bo hj];obtain⟨m,d⟩:∃m,ms[j / 2]?=G m:=⟨_,ag ub⟩;obtain⟨l,f⟩:=h.pri _ m d;obtain⟨k1,q⟩:=ku d;rw[z]at l f;rcases Nat.mod_two_eq_zero_or_one j with x|x;have e:j / 2 * 2=j:=ub;rw[e]at l k1;rw[k1,<-l];simp;have e:j / 2 * 2+1=j:=ub;rw[e]at f q;rw[q,<-f];simp;rw[ak hj,lz (by rw[jQ];omega)]
structure PqKept(hb ho:Nat)(v v':Ap)(w w':Ao):Prop where
 os:w'.os=w.os
 tape:w'.tape=w.tape
 output:w'.output=w.output
 size:w.1.size<=w'.1.size
 block:∀k,k<w.1.size->k≠hb->v.ownBlock≠G k->w'.1[k]?=w.1[k]?
 hdr:w'.1[hb]?=(w.setCell ⟨hb,ho,O⟩ v').1[hb]?
 row:∀k,v'.ownBlock=G k->v.ownBlock=G k\/w.1.size<=k
theorem PqKept.next{v':Ap}(h:PqKept hb ho v v' w W)(d:Kept g W w')(f:v.ownBlock=G g\/w.1.size<=g)(l:g≠hb)(x:hb<w.1.size):PqKept hb ho v v' w w':=by
 have u:=h.size;refine⟨d.os.trans h.os,d.tape.trans h.tape,d.output.trans h.output,bs h.size d.size,λk s q m=>(d.block k ub (λe=>?_)).trans (h.block k s q m),(d.block hb ub (λe=>l e.symm)).trans h.hdr,h.row⟩;rcases f with f|f;exact m (by rw[f,e]);omega
theorem vdq(hb ho base:Nat)(v:Ap)(ms:List Mg)(w:Ao)(h:HqAt w hb ho v base ms):ua 78 #[Ag (G ⟨hb,ho,O⟩)] w λe w'=>e=Ak (I J ms.length)/\w'=w:=by
 have c:=h.c;obtain⟨a,d,rfl⟩:=h.form;go_enter func78,ntmps78
 go_wp2
 go_ret;exact⟨rfl,rfl⟩
theorem HqAt.app{ms:List Mg}(h:HqAt w hb ho v base ms)(I8:base<=w.1.size)(Z:ms.length<=1000)(m:Mg)(o:Obj):
  ∃g cap d,(kH #[126,126] 126 #[v,C (G ⟨w.1.size+1,0,O⟩) 1 1]).run prog ((w.alloc o).alloc (Al #[I J m.pri,I J m.K] 142)).drew=.ok (C (G ⟨g,0,O⟩) (ms.length+1) cap) d /\
   Xc d hb ho v/\d.frozen? ⟨hb,ho,O⟩=false/\hb<d.1.size /\
   Hid (HpAt (d.setCell ⟨hb,ho,O⟩ (C (G ⟨g,0,O⟩) (ms.length+1) cap)) hb ho g cap (ms++[m]))/\Hid (base<=g) /\
   Hid (PqKept hb ho v (C (G ⟨g,0,O⟩) (ms.length+1) cap) w (d.setCell ⟨hb,ho,O⟩ (C (G ⟨g,0,O⟩) (ms.length+1) cap))):=by
 obtain⟨D,H,Q,S,R⟩:=info_parts vjs;have U:=h.lt;obtain⟨g,cap,d,F,T,q,f,Y⟩:=run_append_lies (P:=prog) ((w.alloc o).alloc (Al #[I J m.pri,I J m.K] 142)).drew 126 126 base 142 D _ 2 16 underlying126 H Q S R rfl ub v ms.length (qU ms) (World.ownsRow.alloc (World.ownsRow.alloc h.own o) _)
  ⟨w.1.size+1,0,O⟩ 1 1 [I J m.pri,I J m.K] rfl (World.news_of_block (cs:=#[I J m.pri,I J m.K]) (t:=142) (fr:=(0,0)) (by have:=heap_alloc_new (w.alloc o) (Al #[I J m.pri,I J m.K] 142);rw[show(w.alloc o).1.size=w.1.size+1 by simp]at this;exact this)) (by simp[Value.oneCell']) ub (by unfold maxLen;omega) ub ud _ rfl
 have E:=q.size;simp at E f
 have z:∀k,k<w.1.size->v.ownBlock≠G k->d.1[k]?=w.1[k]?:=λk l s=>
  (q.block k ud (λe=>s e.symm)).trans ((ig (w.alloc o) _ k ud).trans (ig w o k l))
 have u:=z hb U h.ne;have y:Xc d hb ho v:=(aw (w:=w) (w':=d) (a:=⟨hb,ho,O⟩) u).trans h.c;have x:d.frozen? ⟨hb,ho,O⟩=false:=(cn (w:=w) (w':=d) (a:=⟨hb,ho,O⟩) u).trans h.fz
 have B:g≠hb:=by
  rcases f with f|f;intro e;rw[e]at f;exact h.ne f;omega
 have N:(d.setCell ⟨hb,ho,O⟩ (C (G ⟨g,0,O⟩) (ms.length+1) cap)).ownsRow base 142 2 (C (G ⟨g,0,O⟩) (ms.length+1) cap) (ms++[m]).length (qU (ms++[m])):=by
  rw[ce,du,qU,mt,List.flatMap_singleton];exact ownsRow_setCell_other T (λe=>B (by simpa [Value.ownBlock]using e)) _
 have hq:HqAt (d.setCell ⟨hb,ho,O⟩ (C (G ⟨g,0,O⟩) (ms.length+1) cap)) hb ho (C (G ⟨g,0,O⟩) (ms.length+1) cap) base (ms++[m]):=
  ⟨by simp[go_sem,y],by simp[go_sem,x],ud,N,λe=>B (by simpa [Value.ownBlock]using e)⟩
 obtain⟨hp,M,_⟩:=hq.hp;refine⟨g,cap,d,F,y,x,ub,qd hp,qd M,qd ⟨q.os,q.tape,q.output,ud,λk l L K=>?_, ?_,λk l=>?_⟩⟩
 .exact(au d ⟨hb,ho,O⟩ _ k (by show k≠hb;exact L)).trans (z k l K)
 simp only[World.setCell,ij];rw[u];have e:g=k:=by simpa [Value.ownBlock]using l
 subst e;rcases f with f|f;exact Am f;exact An ub
def qbx(ms:List Mg)(m:Mg):List Mg:=qjx (ms++[m]) ms.length
theorem qbn(n:Nat):∀(ms:List Mg) (k:Nat),(qa7 n ms k).length=ms.length:=by
 induction n with
 | zero=>intro ms k;rfl
 | succ n ih=>
  intro ms k
  cases k with
  | zero=>rfl
  | succ k=>
   rw[qa7]
   split
   split
   rw[ih];simp;rfl;rfl
theorem qjo(ms:List Mg)(m:Mg):(qbx ms m).length=ms.length+1:=by
 rw[qbx,qjx,qbn];simp
theorem vf9(hb ho base:Nat)(v:Ap)(ms:List Mg)(m:Mg)(y:ms.length<=90)(w:Ao)(h:HqAt w hb ho v base ms)(L:base<=w.1.size):
  ua 79 #[Ag (G ⟨hb,ho,O⟩),mgV m] w λe w'=>∃v',e=Ak (Aj #[])/\HqAt w' hb ho v' base (qbx ms m)/\PqKept hb ho v v' w w':=by
 obtain⟨g,cap,R,H,E,S,U,l,M,q⟩:=h.app L ub m (Al #[I J m.pri,I J m.K] 142);have c:=h.c;have lt:=h.lt;have s:Hid _:=qd (vfr hb ho g cap (ms++[m]) ms.length uc ud _ l);have D:=qd h.lt;have d:Hid (v.ownBlock=G g\/w.1.size<=g):=qd (q.row g rfl);have F:Hid (g≠hb):=qd l.ne;obtain⟨a,T,rfl⟩:=h.form;obtain⟨n,f⟩:=it ms.length;rw[f]at H s c l q d E |-;have u:=qd f;rw[f]at y;unfold mgV;go_enter func79,ntmps79
 go_wp2
 go_region
 all_goals go_wp2_with(go_at_call 117;refine be s ?_;rintro Q⟨B,x⟩;have N:=qd B;have K:=qd x)
 all_goals
  refine bodyPost_end (results_none rfl _ _ _) rfl ⟨C (G ⟨g,0,O⟩) (n+1) cap,rfl, ?_,q.next K d F D⟩;have hq:=(q9 N).hq M;have z:(qjx (ms++[m]) n).length=n+1:=by rw[qjx,qbn];simp[q9 u]
  rw[z]at hq;have e:qbx ms m=qjx (ms++[m]) n:=by rw[qbx,q9 u]
  rw[e];exact hq
end
def qbw(ms:List Mg)(b f:Nat):Nat:=match ms[b]?,ms[f]? with
 | some x,G y=>if bef x y then b else f
 | _,_=>f
def jz(ms:List Mg):Nat->Nat->Nat->Nat
 | 0,_,f=>f
 | n+1,b,f=>if b<ms.length then jz ms n (b+1) (qbw ms b f) else f
def yn(ms:List Mg)(k:Nat):Nat:=jz ms 2 (2 * k+1) k
theorem vez(ms:List Mg)(b f:Nat):qbw ms b f=b\/qbw ms b f=f:=by
 unfold qbw
 split
 split<;>simp
 exact An rfl
theorem qwh(ms:List Mg)(n:Nat):∀(b f:Nat),jz ms n b f=f\/(b<=jz ms n b f/\jz ms n b f<b+n/\jz ms n b f<ms.length):=by
 induction n with
 | zero=>intro b f;exact Am rfl
 | succ n ih=>
  intro b f;rw[jz]
  by_cases hb:b<ms.length
  rw[bo hb];rcases ih (b+1) (qbw ms b f) with h|h;rw[h];rcases vez ms b f with hp|hp;rw[hp];exact An ⟨ui,ub,hb⟩;rw[hp];exact Am rfl;exact An ⟨ub,ub,h.2.2⟩;rw[ak hb];exact Am rfl
theorem qwi(ms:List Mg)(k:Nat):yn ms k=k\/(k<yn ms k/\yn ms k<ms.length):=by
 rcases qwh ms 2 (2 * k+1) k with h|h;exact Am h;exact An ⟨by unfold yn;omega,h.2.2⟩
theorem qev(hb ho g cap:Nat)(ms:List Mg)(k:Nat)(S:k<=200)(H:ms.length<=100)(w:Ao)(h:HpAt w hb ho g cap ms):
  ut 162 #[Ag (G ⟨hb,ho,O⟩),I J k] w (I J (yn ms k:Nat)):=by
 obtain⟨R,E⟩:=it (yn ms k);rw[E];have L:Hid (R=jz ms 2 (2 * k+1) k):=qd E.symm;have M:=qd h;go_enter func162,ntmps162
 go_wp2
 go_loopw [5,6] (λf i wr=>∃(b n f':Nat),i=I J b/\f=I J f'/\b+n=2 * k+3/\f'<b/\Hid (R=jz ms n b f')/\Hid (Xb w wr)) (λ_ i _=>2 * k+3 - (intOf i).toNat)
 exact⟨2 * k+1,2,k,uc,rfl,ub,ub,L,qd uj⟩;obtain⟨b,n,f,rfl,rfl,N,Q,s,q⟩:=hrel;have F:=qd (M.below q);have c:=(q9 F).c;obtain⟨m,D⟩:=it ms.length;rw[D]at c H;have l:=qd D
 cases n with
 | zero=>
  have hd:decide ((b:Int)<=2 * (k:Int)+2)=false:=db ub
  go_wp2
  go_ret;exact⟨by rw[q9 s];rfl,q9 q⟩
 | succ n=>
  by_cases hbm:b<m
  .obtain⟨x,hx⟩:∃x,ms[b]?=G x:=⟨_,ag (uu (q9 l))⟩
   obtain⟨y,z⟩:∃y,ms[f]?=G y:=⟨_,ag (uu (q9 l))⟩;have K:decide ((b:Int)<(m:Int))=true:=di ub;have u:=qd (qer hb ho g cap ms b f x y hx z wr F)
   cases hbef:bef x y with
   | true=>
    rw[hbef]at u;have d:Hid (jz ms (n+1) b f=jz ms n (b+1) b):=qd (by rw[jz,bo (uu (q9 l))];congr 1;unfold qbw;rw[hx,z];simp[hbef])
    go_wp2_with(go_at_call 164;refine be u λw2 C=>?_;have B:=qd (qg q C))
    exact⟨⟨b+1,n,b,uc,rfl,ub,ub,qd (by rw[q9 s,q9 d]),B⟩,by simp[intOf];omega⟩
   | false=>
    rw[hbef]at u;have d:Hid (jz ms (n+1) b f=jz ms n (b+1) f):=qd (by rw[jz,bo (uu (q9 l))];congr 1;unfold qbw;rw[hx,z];simp[hbef])
    go_wp2_with(go_at_call 164;refine be u λw2 C=>?_;have B:=qd (qg q C))
    exact⟨⟨b+1,n,f,uc,rfl,ub,ub,qd (by rw[q9 s,q9 d]),B⟩,by simp[intOf];omega⟩
  have K:decide ((b:Int)<(m:Int))=false:=db ub;have d:Hid (jz ms (n+1) b f=f):=qd (by rw[jz,ak (uu (q9 l))])
  go_wp2
  go_ret;exact⟨by rw[q9 s,q9 d];rfl,q9 q⟩
def qae:Nat->List Mg->Nat->List Mg
 | 0,ms,_=>ms
 | n+1,ms,k=>if yn ms k=k then ms else match ms[k]?,ms[yn ms k]? with
  | some x,G y=>qae n ((ms.set k y).set (yn ms k) x) (yn ms k)
  | _,_=>ms
def qht(ms:List Mg)(k:Nat):List Mg:=qae (ms.length+1) ms k
theorem vgj(hb ho g cap:Nat)(ms:List Mg)(F:ms.length<=100)(w:Ao)(h:HpAt w hb ho g cap ms):
  ua 116 #[Ag (G ⟨hb,ho,O⟩),I J 0] w λe w'=>e=Ak (Aj #[])/\HpAt w' hb ho g cap (qht ms 0)/\Kept g w w':=by
 obtain⟨R,H⟩:=it (qht ms 0);rw[H];have HR:Hid (R=qae (ms.length+1) ms 0):=qd H.symm;have H0:=qd h;have F0:=qd (qev hb ho g cap ms 0 ub F w h);have IC:Hid (ms.length<=100):=qd F;go_enter func116,ntmps116
 go_wp2_with(go_at_call 162;refine be F0 λw1 A0=>?_;have S:=qd A0)
 go_loopw [1,4] (λi U wr=>∃(k n:Nat) (ms':List Mg),i=I J k/\U=I J (yn ms' k:Nat)/\k<=100/\Hid (R=qae n ms' k)/\Hid (k=0\/k<ms'.length)/\Hid (ms'.length<k+n)/\Hid (ms'.length<=100)/\Hid (HpAt wr hb ho g cap ms')/\Hid (Kept g w wr)) (λi _ _=>200 - (intOf i).toNat)
 exact⟨0,ms.length+1,ms,rfl,rfl,ub,HR,qd (Am rfl),qd ub,IC,qd (H0.below S),qd (Kept.of_below S)⟩;obtain⟨k,n,ms',rfl,rfl,hk,C,mE,l,B,N,M⟩:=hrel;have Z:=qwi ms' k;obtain⟨f,s⟩:=it (yn ms' k);rw[s]at Z |-
 by_cases hfk:f=k
 .subst hfk
  have q:Hid (qae n ms' f=ms'):=qd (by cases n with
   | zero=>rfl
   | succ n=>rw[qae,bo s])
  go_wp2
  exact bodyPost_end (results_none rfl _ _ _) rfl ⟨rfl,by rw[q9 C,q9 q];exact q9 N,q9 M⟩
 have T:k<f/\f<ms'.length:=ub;obtain⟨d,rfl⟩:∃d,n=d+1:=⟨n - 1,uu (q9 l)⟩;obtain⟨x,E⟩:∃x,ms'[k]?=G x:=⟨_,ag ub⟩;obtain⟨y,D⟩:∃y,ms'[f]?=G y:=⟨_,ag T.2⟩;have q:Hid (qae (d+1) ms' k=qae d ((ms'.set k y).set f x) f):=qd (by rw[qae,s,ak hfk,E,D]);have m:Hid (((ms'.set k y).set f x).length=ms'.length):=qd uc;have K:=qd (qrf hb ho g cap ms' k f x y E D ub wr N);have E6:f<=100:=uu (q9 B)
 have u:=qd T;obtain⟨z,TQ⟩:=it ((ms'.set k y).set f x);rw[TQ]at K q m;have FI:Hid (∀w1,HpAt w1 hb ho g cap z->_):=qd λw1 Y=>qev hb ho g cap z f ub (by have:=q9 m;have:=q9 B;omega) w1 Y
 go_wp2_with(first|(go_at_call 163;refine be K ?_;rintro w3⟨UQ,D7⟩;have Q:=qd UQ;have K3:=qd (M.trans D7))|(go_at_call 162;refine be (FI _ Q) λw4 L=>?_;have H4:=qd (Q.below L);have K4:=qd (K3.trans (Kept.of_below L))))
 exact⟨⟨f,d,z,rfl,rfl,E6,qd (by rw[q9 C,q9 q]),qd (An (by have:=q9 u;rw[q9 m];omega)),qd (by have:=q9 l;have:=q9 u;rw[q9 m];omega),qd (by rw[q9 m];exact q9 B),H4,K4⟩,by have:=q9 u;simp[intOf];omega⟩
def qbh(ms:List Mg)(y:Mg)(k:Nat):List Mg:=(ms.set 0 y).take k
def qec(ms:List Mg):List Mg:=match ms.getLast? with
 | some y=>qht (qbh ms y (ms.length - 1)) 0
 | none=>[]
theorem HpAt.cut{ms:List Mg}(h:HpAt w hb ho g cap ms)(D:ms.length=k+1){x:Mg}(B:ms[0]?=G x)(y:Mg):
  HpAt (((w.setCell ⟨g,0,O⟩ (I J y.pri)).setCell ⟨g,1,O⟩ (I J y.K)).setCell ⟨hb,ho,O⟩ (C (G ⟨g,0,O⟩) k cap)) hb ho g cap (qbh ms y k):=by
 obtain⟨c,fz,q,lt,glt,cells,gfz,blk,room⟩:=h;obtain⟨l,f⟩:=cells 0 x B;have s:(qbh ms y k).length=k:=by unfold qbh;rw[cw,eu];omega
 simp only[tg,ee]at l f;refine⟨by rw[s];simp[go_sem,c],by simp[go_sem,fz],q,by simpa using lt,by simpa using glt,λi m d=>?_,λj=>by simp[go_sem,gfz], ?_,by rw[s];omega⟩
 .have hi:i<k:=uu ((aj.1 d).1)
  unfold qbh at d;rw[ll,bo hi]at d
  by_cases h0:i=0
  .subst h0
   rw[mw ub]at d;simp at d;subst d;constructor<;>simp[go_sem,l,f]
  rw[nz (λe=>h0 e.symm)]at d;obtain⟨z,u⟩:=cells i m d;constructor<;>simp[go_sem,z,u]
 exact((blk.set _ _).set _ _).same (au _ ⟨hb,ho,O⟩ _ g (by show g≠hb;exact q))
theorem qkc{b:Nat}(h:w.cell? ⟨b,o,O⟩=G v):(w.setCell ⟨b,o,O⟩ v).1[b]?=w.1[b]?:=by
 simp only[World.cell?]at h;simp only[World.setCell,ij,if_true]
 cases hb:w.1[b]? with
 | none=>rfl
 | some obj=>
  rw[hb]at h
  cases obj with
  | cells cs ty fr=>
   simp at h;simp only[nl]
   congr 2
   apply Array.ext_getElem?;intro i;simp only[Option.isSome_none,dg,if_false];rw[ov]
   split
   rename_i e;subst e
   split
   exact h.symm;rename_i d;rw[Array.getElem?_eq_none ub]at h;cases h;rfl
  | _=>simp at h
theorem HqAt.below{ms:List Mg}(h:HqAt w hb ho v base ms)(d:Xb w w'):HqAt w' hb ho v base ms:=by
 obtain⟨l,f⟩:=qk d;exact⟨(l hb ho h.lt).trans h.c,(f hb ho h.lt).trans h.fz,aq h.lt d.size,qE h.own d ui,h.ne⟩
def qch(hb ho base:Nat)(v:Ap)(ms:List Mg)(w:Ao)(e:Ending)(w':Ao):Prop:=∃v' m,e=Ak (Aj #[mgV m,Ah (decide (0<ms.length))])/\m=(ms.head?).getD ⟨0,0⟩/\HqAt w' hb ho v' base (qec ms)/\PqKept hb ho v v' w w'
theorem vf4(hb ho base:Nat)(v:Ap)(w:Ao)(h:HqAt w hb ho v base []):ua 77 #[Ag (G ⟨hb,ho,O⟩)] w (qch hb ho base v [] w):=by
 have l:=qd h;have c:=h.c;have lt:=h.lt;obtain⟨a,f,rfl⟩:=h.form;simp only[iq]at c |-;go_enter func77,ntmps77
 go_wp2
 refine tw ⟨C a 0 f,⟨0,0⟩,rfl,rfl,l.below (uj.alloc ui _), ?_⟩;refine⟨rfl,rfl,rfl,uc,λk d _ _=>ig w _ k d, ?_,λk h=>Am h⟩;rw[qkc c];exact ig w _ hb lt
theorem qbp(n:Nat):∀(ms:List Mg) (k:Nat),(qae n ms k).length=ms.length:=by
 induction n with
 | zero=>intro ms k;rfl
 | succ n ih=>
  intro ms k;rw[qae]
  split
  rfl
  split
  rw[ih];simp;rfl
def qyl(w:Ao)(hb ho g cap k:Nat)(x y:Mg):Ao:=
 (((((w.setCell ⟨g,0,O⟩ (I J y.pri)).setCell ⟨g,1,O⟩ (I J y.K)).setCell ⟨hb,ho,O⟩ (C (G ⟨g,0,O⟩) k cap)).alloc (Al #[I J 0,I J 0] 142)).alloc (Al #[I J x.pri,I J x.K] 142)).drew.drew
theorem qym{x y:Mg}(f:g≠hb)(D:hb<w.1.size)(d:Kept g (qyl w hb ho g cap k x y) w')(q m:Ap):
  PqKept hb ho (C (G ⟨g,0,O⟩) n cap) (C (G ⟨g,0,O⟩) k cap) w ((w'.setCell ⟨w.1.size,0,O⟩ q).setCell ⟨w.1.size,1,O⟩ m):=by
 have K:(qyl w hb ho g cap k x y).1.size=w.1.size+2:=by simp[qyl]
 have L:=d.size
 have B:∀i,i<w.1.size->((w'.setCell ⟨w.1.size,0,O⟩ q).setCell ⟨w.1.size,1,O⟩ m).1[i]?=w'.1[i]?:=λi E=>
  (au _ ⟨w.1.size,1,O⟩ m i (by show i≠w.1.size;omega)).trans (au _ ⟨w.1.size,0,O⟩ q i (by show i≠w.1.size;omega))
 have z:∀i,i<w.1.size->i≠g->(qyl w hb ho g cap k x y).1[i]?=(w.setCell ⟨hb,ho,O⟩ (C (G ⟨g,0,O⟩) k cap)).1[i]?:=by
  intro i E l;show((((w.setCell ⟨g,0,O⟩ (I J y.pri)).setCell ⟨g,1,O⟩ (I J y.K)).setCell ⟨hb,ho,O⟩ (C (G ⟨g,0,O⟩) k cap)).alloc (Al #[I J 0,I J 0] 142)).alloc (Al #[I J x.pri,I J x.K] 142) |>.heap[i]?=_;rw[ig _ _ i ud,ig _ _ i ud];have s:¬g=i:=λe=>l e.symm
  simp only[World.setCell,ij,s,if_false]
 refine⟨d.os,d.tape,d.output,ud,λi u H F=>?_, ?_,λi h=>Am h⟩
 .have l:i≠g:=λe=>F (by rw[e];rfl)
  rw[B i u,d.block i ub l,z i u l];exact au w ⟨hb,ho,O⟩ _ i (by show i≠hb;exact H)
 rw[B hb D,d.block hb ub (λe=>f e.symm),z hb D (λe=>f e.symm)]
theorem vf5(hb ho base g cap k:Nat)(ms:List Mg)(l:ms.length=k+1)(hn:ms.length<=90)(x y:Mg)(s:ms[0]?=G x)(B:ms[k]?=G y)(w:Ao)(h:HqAt w hb ho (C (G ⟨g,0,O⟩) (k+1) cap) base ms)
  (Q:Ending->Ao->Prop) (L:∀e w',qch hb ho base (C (G ⟨g,0,O⟩) (k+1) cap) ms w e w'->Q e w') :
  ua 77 #[Ag (G ⟨hb,ho,O⟩)] w Q:=by
 obtain⟨hp,R,D⟩:=h.hp;clear D;have hcut:=hp.cut l s y
 have N:qec ms=qht (qbh ms y k) 0:=by
  have hl:ms.getLast?=G y:=by rw[List.getLast?_eq_getElem?,l];exact B
  unfold qec;rw[hl,l];rfl
 have K:decide (0<ms.length)=true:=di ub;have H:x=(ms.head?).getD ⟨0,0⟩:=by rw[oq,s];rfl
 have HE:Hid (∀d q m,HpAt d hb ho g cap (qht (qbh ms y k) 0)->Kept g (qyl w hb ho g cap k x y) d->Q (Ak (Aj #[mgV x,Ah true])) ((d.setCell ⟨w.1.size,0,O⟩ q).setCell ⟨w.1.size,1,O⟩ m)):=qd (by
  intro d q m E f;apply L;have V5:(qht (qbh ms y k) 0).length=k:=by rw[qht,qbp];unfold qbh;rw[cw,eu];omega
  have hq:=E.hq R;rw[V5]at hq;have F:=hp.lt;have M:=hp.glt;have z:Below w.1.size d ((d.setCell ⟨w.1.size,0,O⟩ q).setCell ⟨w.1.size,1,O⟩ m):=(uj.setCell (by exact ui) _).setCell (by exact ui) _;refine⟨_,x,by rw[K],H, ?_,qym hp.ne F f q m⟩;rw[N];refine⟨(z.cell (p:=⟨hb,ho,O⟩) F).trans hq.c,(z.frozen (p:=⟨hb,ho,O⟩) F).trans hq.fz,aq hq.lt z.size, ?_,hq.ne⟩;refine qm hq.own λg' hg'=>?_
  have e:g=g':=by simpa [Value.ownBlock]using hg'
  subst e
  exact z.block g M)
 have S:Hid _:=qd (vgj hb ho g cap (qbh ms y k) (by unfold qbh;rw[cw,eu];omega) (qyl w hb ho g cap k x y) (hcut.below ((uj.alloc ui _).alloc uc _).drew.drew))
 have CELLS:Hid (∀d,Kept g (qyl w hb ho g cap k x y) d->Xc d (w.1.size+1) 0 (I J x.pri)/\Xc d (w.1.size+1) 1 (I J x.K)/\Xc d w.1.size 0 (I J 0)/\Xc d w.1.size 1 (I J 0)/\(Xf d w.1.size)/\w.1.size+1<d.1.size):=qd (by
  intro d f;have hz:(qyl w hb ho g cap k x y).1.size=w.1.size+2:=by simp[qyl]
  have M:=hp.glt;obtain⟨u,hf⟩:=jZ f
  refine⟨(u _ 0 ub ub).trans ?_,(u _ 1 ub ub).trans ?_,(u _ 0 ub ub).trans ?_,(u _ 1 ub ub).trans ?_,λj=>(hf _ j ub ub).trans ?_,uu f.size⟩<;>simp[qyl,go_sem])
 obtain⟨c,fz,ne,lt,glt,cells,gfz,blk,room⟩:=hp;obtain⟨U,T⟩:=cells 0 x s;obtain⟨y0,y1⟩:=cells k y B;simp only[tg,ee]at U T;rw[l]at c;have k2:(k:Int)<=(cap:Int):=ub;have kb:k<=90:=ub;clear cells blk h hcut N K H s B L R room l;unfold qyl at S;go_enter func77,ntmps77
 go_wp2
 go_region
 all_goals go_wp2
 all_goals go_region
 all_goals go_wp2_with(go_at_call 116;refine be S ?_;rintro d⟨E,f⟩;obtain⟨q0,q1,Z,Y,qf,ql⟩:=q9 CELLS d f;have H6:=qd E;have K6:=qd f)
 all_goals exact bj (by simp[go_sem,Z,Y]<;>rfl) rfl (HE _ _ _ H6 K6)
def qik(x y:Int):Int:=if x<y then -1 else if y<x then 1 else 0
theorem qd2(x:Int)(w:Ao):ua 160 #[I J x] w λe w'=>e=Ak (Ah false)/\w'=w:=by
 go_enter func160,ntmps160
 go_wp2
 go_ret;exact⟨uc,rfl⟩
theorem qmn(x y:Int)(w:Ao):ua 113 #[I J x,I J y] w λe w'=>e=Ak (I J (qik x y))/\w'=w:=by
 rcases Int.lt_trichotomy x y with h|h|h
 .have d:qik x y=-1:=by unfold qik;rw[bo h]
  have f:decide (x<y)=true:=di h;rw[d];go_enter func113,ntmps113
  go_wp2_with(go_at_call 160;refine be (qd2 _ _) ?_;rintro w1 rfl)
  go_ret;exact⟨rfl,rfl⟩
 .subst h
  have d:qik x x=0:=by unfold qik;simp
  have f:decide (x<x)=false:=db ub;have l:decide (x > x)=false:=db ub;rw[d];go_enter func113,ntmps113
  go_wp2_with(go_at_call 160;refine be (qd2 _ _) ?_;rintro w1 rfl)
  go_ret;exact⟨rfl,rfl⟩
 have d:qik x y=1:=by unfold qik;rw[ak ub,bo h]
 have f:decide (x<y)=false:=db ub;have l:decide (x > y)=true:=di h;rw[d];go_enter func113,ntmps113
 go_wp2_with(go_at_call 160;refine be (qd2 _ _) ?_;rintro w1 rfl)
 go_ret;exact⟨rfl,rfl⟩
theorem qfj(x y:Int)(p q:Ap)(w:Ao):ut 112 #[Ai #[I J x,p,q],I J y] w (I J (qik x y)):=by
 go_enter func112,ntmps112
 go_wp2_with(go_at_call 113;refine be (qmn _ _ _) ?_;rintro w1 rfl)
 go_ret;exact⟨rfl,uj.alloc ui _⟩
structure Sb where
 id:Int
 core:Option Addr
 row:Option Addr
 len:Nat
 cap:Nat
def qW(s:Sb):List Ap:=[I J s.id,Ag s.core,C s.row s.len s.cap]
def SubsAt(w:Ao)(lo:Nat)(v:Ap)(l:List Sb):Prop:=
 ∃a c,v=C a l.length c/\∀(i:Nat) (s:Sb),l[i]?=G s->∃g,a=G ⟨g,0,O⟩/\g<lo/\w.cell? ⟨g,i * 3,O⟩=G (I J s.id)/\w.cell? ⟨g,i * 3+1,O⟩=G (Ag s.core)/\w.cell? ⟨g,i * 3+2,O⟩=G (C s.row s.len s.cap)
def vl(l:List Sb)(id:Int):Nat:=l.countP λs=>decide (s.id<id)
def xD(l:List Sb):Prop:=l.Pairwise λa b=>a.id<b.id
theorem km{l:List Sb}(h:xD l)(id:Int):∀(i:Nat) (s:Sb),l[i]?=G s->(s.id<id↔i<vl l id):=by
 induction l with
 | nil=>intro i s d;simp at d
 | cons a r ih=>
  have f:=mf.1 h;intro i s d;unfold vl;rw[List.countP_cons]
  cases i with
  | zero=>
   simp at d;subst d
   by_cases A1:a.id<id
   simp[A1]
   have:r.countP (λs=>decide (s.id<id))=0:=List.countP_eq_zero.2 λb hb=>by
    have:=f.1 b hb;simp;omega
   simp[A1,this]
  | succ i=>
   have m:r[i]?=G s:=by simpa using d
   have:=ih f.2 i s m
   by_cases A1:a.id<id
   simp only[A1,decide_true,if_true];unfold vl at this;omega
   have p:¬s.id<id:=by
    have:=f.1 s (bg m);omega
   have q:r.countP (λs=>decide (s.id<id))=0:=List.countP_eq_zero.2 λb hb=>by
    have:=f.1 b hb;simp;omega
   simp[A1,q,p]
theorem vnp{l:List Sb}(h:xD l)(id:Int):(l.any λs=>s.id==id)=match l[vl l id]? with
  | some s=>s.id==id
  | none=>false:=by
 have u:=km h id;have D:=ed.1 h
 cases hp:l[vl l id]? with
 | none=>
  rw[oz];intro s f;obtain⟨i,d⟩:=dd f;have H:=(aj.1 d).1;have m:l.length<=vl l id:=List.getElem?_eq_none_iff.1 hp;have:=(u i s d).2 ub;simp;omega
 | some t=>
  obtain⟨C,E⟩:=aj.1 hp;show _=(t.id==id);have y:¬t.id<id:=λz=>uu ((u _ t hp).1 z)
  by_cases he:t.id=id
  rw[mh.2 ⟨t,bg hp,by simp[he]⟩];simp[he];rw[oz.2,Eq.comm];simp[he];intro s f;obtain⟨i,d⟩:=dd f;obtain⟨x,B⟩:=aj.1 d;rcases Nat.lt_trichotomy i (vl l id) with G|q|F;have:=(u i s d).2 G;simp;omega;subst q;rw[hp]at d;cases d;simp[he];have:=D (vl l id) i C x F;rw[E,B]at this;simp;omega
theorem qme(l:List Sb)(id:Int)(v:Ap)(w:Ao)(h:SubsAt w w.1.size v l)(Y:xD l)(hn:l.length<=8):
  ut 111 #[v,I J id,.func (.func 112) #[] #[]] w (Aj #[I J (vl l id),Ah (l.any λs=>s.id==id)]):=by
 have HS:=qd h;obtain⟨a,c,rfl,hx⟩:=h;have HX:=qd hx;have HC:=qd (km Y id);have U:vl l id<=l.length:=List.countP_le_length;clear hx;obtain⟨n,R⟩:=it l.length;have S:=qd R;obtain⟨P,hP⟩:=it (vl l id);obtain⟨F,hF⟩:∃F,(l.any λs=>s.id==id)=F:=⟨_,rfl⟩;have H:Hid _:=qd (vnp Y id);rw[hF]at H |-;clear hF;rw[hP]at HC U H |-;rw[R]at hn U |-;clear R hP;go_enter func111,ntmps111
 go_wp2
 go_loopw [9,10] (λi j wr=>∃(f d:Nat),i=I J f/\j=I J d/\f<=P/\P<=d/\d<=n/\Hid (Xb w wr)) (λi j _=>(intOf j).toNat - (intOf i).toNat)
 exact⟨0,n,rfl,rfl,bt _,U,ui,qd uj⟩;obtain⟨f,d,rfl,rfl,h1,h2,h3,y⟩:=hrel
 by_cases A1:f<d
 .obtain⟨m,hm⟩:=it ((f+d) / 2)
  have mR:f<=m:=ub;have sA:m<d:=ub;have hmi:((f:Int)+(d:Int)) / 2=(m:Int):=ub;obtain⟨s,x⟩:∃s,l[m]?=G s:=⟨_,ag (uu (q9 S))⟩;obtain⟨g,rfl,glt,O,N,M⟩:=q9 HX m s x;obtain⟨q,L⟩:=qk y;rw[<-q g (m * 3) glt]at O;rw[<-q g (m * 3+1) glt]at N;rw[<-q g (m * 3+2) glt]at M;have D:=q9 HC m s x;have m0:=um m;have m1:=uo m n;have K:=qd (λw=>qfj s.id id (Ag s.core) (C s.row s.len s.cap) w);clear q L x hm
  by_cases hsi:s.id<id
  .have hd:decide (qik s.id id<0)=true:=di (by unfold qik;rw[bo hsi];decide)
   have B:=D.1 hsi;generalize qik s.id id=z at *
   go_wp2_with(go_at_call 112;refine be (K _) λw2 u=>?_;have E:=qd (qg y u);clear u)
   exact⟨⟨m+1,d,rfl,rfl,ub,h2,h3,E⟩,by simp[intOf];omega⟩
  have hd:decide (qik s.id id<0)=false:=db (by unfold qik;rw[ak hsi];split<;>decide)
  have B:P<=m:=by
   rcases Nat.lt_or_ge m P with Q|Q;exact absurd (D.2 Q) hsi;exact Q
  generalize qik s.id id=z at *
  go_wp2_with(go_at_call 112;refine be (K _) λw2 u=>?_;have E:=qd (qg y u);clear u)
  exact⟨⟨f,m,rfl,rfl,h1,B,ub,E⟩,by simp[intOf];omega⟩
 obtain rfl:f=P:=ub;obtain rfl:d=f:=ub
 by_cases hPn:d<n
 .obtain⟨s,x⟩:∃s,l[d]?=G s:=⟨_,ag (uu (q9 S))⟩
  obtain⟨g,rfl,glt,O,N,M⟩:=q9 HX d s x;obtain⟨q,L⟩:=qk y;rw[<-q g (d * 3) glt]at O;rw[<-q g (d * 3+1) glt]at N;rw[<-q g (d * 3+2) glt]at M;have p0:=um d;have p1:=uo d n;have K:=qd (λw=>qfj s.id id (Ag s.core) (C s.row s.len s.cap) w);have T:Hid (F=(s.id==id)):=qd (by rw[q9 H,x])
  have Z:(qik s.id id==0)=(s.id==id):=by
   unfold qik;rcases Int.lt_trichotomy s.id id with h|h|h;rw[bo h];simp;omega;simp[h];rw[ak ub,bo h];simp;omega
  generalize qik s.id id=z at *;clear q L x
  go_wp2_with(go_at_call 112;refine be (K _) λw2 u=>?_;have E:=qd (qg y u);clear u)
  go_ret2
  exact⟨by rw[q9 T];first|rfl|(rw[<-Z];rfl)|simp[Z],q9 E⟩
 have T:Hid (F=false):=qd (by rw[q9 H,lz (uu (q9 S))])
 go_wp2
 go_ret2
 exact⟨by rw[q9 T];rfl,q9 y⟩
section
variable {P:Program}
def jB(cur:Array Ap)(o:Nat)(cs:List Ap):Array Ap:=(cur.toList.take o++cs++cur.toList.drop (o+cs.length)).toArray
theorem xW{cs:List Ap}(h:o+cs.length<=cur.size):(jB cur o cs).size=cur.size:=by
 simp[jB];omega
theorem zn(cur:Array Ap)(o:Nat)(cs:List Ap):(jB cur o cs).toList=cur.toList.take o++cs++cur.toList.drop (o+cs.length):=by
 simp[jB]
theorem xR(w:Ao)(l p ty elem:TypeId)(K g o dLen dCap n:Nat)(a:Addr)(sLen sCap:Nat)(cur:Array Ap)(t:TypeId)(cs:List Ap)
  (q:P.underlying l=G (.slice elem)) (h:(P.info? elem).map (·.size)=G K)
  (y:w.1[g]?=G (Al cur t (0,0))) (s:n=Nat.min sLen dLen) (u:cs.length=n * K)
  (d:∀j v,cs[j]?=G v->w.cell? (a.add j)=G v) (f:o+cs.length<=cur.size) (z:∀v∈cs,v.oneCell'=true) :
  (Builtin.copy_ #[l,p] ty #[.slice (G ⟨g,o,O⟩) dLen dCap,.slice (G a) sLen sCap]).run P w=.ok (goInt n) (w.setRow g (jB cur o cs)):=by
 have B:=run_loadCells_list (P:=P) w a cs d;have m:=run_storeCells_at P g o t cs 0 cur w y (by simpa using f) z;simp only[sd]at m
 cases hq:P.info? elem with
 | none=>simp[hq]at h
 | some i=>
  have x:i.size=K:=by simpa [hq]using h
  simp[Builtin.copy_,run_underlying q,Builtin.lenOf,Builtin.firstCells,sizeOf,typeInfo,hq,x,<-s,<-u,B,m,jB]
theorem qby(w:Ao)(t ty elem:TypeId)(l:TypeInfo)(K g n cap m c:Nat)(a:Addr)(cur:Array Ap)(h:TypeId)(cs:List Ap)
  (q:P.underlying t=G (.slice elem)) (x:P.info? elem=G l) (u:l.size=K)
  (y:w.1[g]?=G (Al cur h (0,0))) (s:cs.length=m * K) (B:n+m<=cap)
  (d:∀j v,cs[j]?=G v->w.cell? (a.add j)=G v) (f:n * K+cs.length<=cur.size) (z:∀v∈cs,v.oneCell'=true) :
  (Builtin.append_ #[t,t] ty #[.slice (G ⟨g,0,O⟩) n cap,.slice (G a) m c]).run P w=.ok (.slice (G ⟨g,0,O⟩) (n+m) cap) (w.setRow g (jB cur (n * K) cs)):=by
 have C:=run_loadCells_list (P:=P) w a cs d;have p:=run_storeCells_at P g (n * K) h cs 0 cur w y (by simpa using f) z;simp only[sd]at p;have D:(⟨g,0,O⟩:Addr).add (n * K)=⟨g,n * K,O⟩:=by unfold Addr.add;split<;>simp_all
 simp[Builtin.append_,run_underlying q,Builtin.lenOf,Builtin.firstCells,sizeOf,typeInfo,x,u,B,<-s,C,D,p,jB]
theorem kO(z:Array Ap)(n:Nat):(Builtin.zeroCells z n).toList.length=n * z.size:=by simp[Builtin.zeroCells]
theorem qi1{z:Array Ap}(n:Nat)(h:∀v∈z,v.oneCell'=true):∀v∈(Builtin.zeroCells z n).toList,v.oneCell'=true:=by
 intro v hv;simp[Builtin.zeroCells]at hv;obtain⟨i,f,rfl⟩:=hv
 have d:0<z.size:=by
  rcases Nat.eq_zero_or_pos z.size with e|e;rw[e]at f;omega;exact e
 have:=Nat.mod_lt i d;rw[getElem!_pos z (i % z.size) this];exact h _ (Array.getElem_mem _)
theorem qu2(w:Ao)(t elem ty:TypeId)(z:Ap)(K g o n c:Nat)(cur:Array Ap)(f:TypeId)
  (l:P.underlying t=G (.slice elem)) (hv:∀w,(zeroValue elem).run P w=.ok z w) (q:z.cells.size=K) (p:∀v∈z.cells,v.oneCell'=true)
  (m:w.1[g]?=G (Al cur f (0,0))) (d:o+(n+1) * K<=cur.size) :
  (Builtin.clear_ #[t] ty #[.slice (G ⟨g,o,O⟩) (n+1) c]).run P w=.ok (.tuple #[]) (w.setRow g (jB cur o (Builtin.zeroCells z.cells (n+1)).toList)):=by
 have h:=run_storeCells_at P g o f (Builtin.zeroCells z.cells (n+1)).toList 0 cur w m (by rw[kO,q];simpa using d) (qi1 _ p);simp only[sd]at h;simp[Builtin.clear_,run_underlying l,hv,h,jB]
theorem vG(h:w.ownsRow base e size (C (G ⟨g,0,O⟩) n cap) n xs):base<=g/\n<=cap/\cap<=maxLen/\∃cur,w.1[g]?=G (Al cur e (0,0))/\cur.size=cap * size/\cur.toList.take (n * size)=xs:=by
 rcases h.2 with⟨hv,_⟩|⟨s,cap',p,hv,hb,f,m,l,q,d⟩;simp at hv;simp at hv;obtain⟨rfl,rfl⟩:=hv;exact⟨hb,m,l,p,f,q,d⟩
theorem jq(w:Ao)(g:Nat)(cur:Array Ap):w.grownBy (w.setRow g cur) (G g):=⟨rfl,rfl,rfl,uc,λk _ d=>setRow_other w g k cur (λe=>d (by rw[e]))⟩
theorem kq{c:Ao}(h:a.grownBy b r)(k:b.grownBy c r):a.grownBy c r:=⟨k.os.trans h.os,k.tape.trans h.tape,k.output.trans h.output,bs h.size k.size,λi f d=>(k.block i (aq f h.size) d).trans (h.block i f d)⟩
theorem qne{c:Ao}(h:a.grownBy b r)(k:b.grownBy c (G g))(l:a.1.size<=g):a.grownBy c r:=⟨k.os.trans h.os,k.tape.trans h.tape,k.output.trans h.output,bs h.size k.size,λi d f=>(k.block i (aq d h.size) (λe=>by simp at e;omega)).trans (h.block i d f)⟩
end
section
attribute [local go_sem ↓] vsk
def qr(l:List Sb):List Ap:=l.flatMap qW
theorem vD(l:List Sb):(qr l).length=l.length * 3:=by
 induction l with
 | nil=>rfl
 | cons a r ih=>rw[qr,dp,ce,<-qr,ih];simp[qW];omega
theorem vM(a b:List Sb):qr (a++b)=qr a++qr b:=mt
theorem qad(l:List Sb)(k:Nat)(d:k<=l.length):qr (l.take k)=(qr l).take (k * 3):=by
 have h:=vM (l.take k) (l.drop k);rw[fh]at h;rw[h];exact(sn (by rw[vD,cw];omega)).symm
theorem qac(l:List Sb)(k:Nat)(d:k<=l.length):qr (l.drop k)=(qr l).drop (k * 3):=by
 have h:=vM (l.take k) (l.drop k);rw[fh]at h;rw[h];exact(List.drop_left' (by rw[vD,cw];omega)).symm
theorem jD(l:List Sb):∀v∈qr l,v.oneCell'=true:=by
 intro v hv;obtain⟨s,_,d⟩:=List.mem_flatMap.1 hv;simp[qW]at d;rcases d with rfl|rfl|rfl<;>rfl
theorem qb1:(prog.info? 130).map (λi=>(i.zero,i.size,i.bytes))=G (G (Ai #[I J 0,Ag O,C O 0 0]),3,40):=uh
abbrev SbRow(w:Ao)(base:Nat)(v:Ap)(l:List Sb):Prop:=w.ownsRow base 130 3 v l.length (qr l)
def gX(l:List Sb)(k:Nat)(s:Sb):List Sb:=l.take k++s::l.drop k
theorem xa(l:List Sb)(k:Nat)(s:Sb):(gX l k s).length=l.length+1:=by simp[gX];omega
theorem vB(h:w.ownsRow base e size v n xs):(v=C O 0 0/\n=0)\/∃g cap,v=C (G ⟨g,0,O⟩) n cap:=by
 rcases h.2 with⟨f,d⟩|⟨g,cap,cur,rfl,_⟩;exact Am ⟨f,d⟩;exact An ⟨g,cap,rfl⟩
def yF(w:Ao)(base:Nat)(v:Ap)(l:List Sb)(e:Ending)(w':Ao):Prop:=∃g cap,e=Ak (C (G ⟨g,0,O⟩) l.length cap)/\SbRow w' base (C (G ⟨g,0,O⟩) l.length cap) l/\w.grownBy w' v.ownBlock/\(v.ownBlock=G g\/w.1.size<=g)
theorem vns{l:List Sb}{s:Sb}(J:l.length<=1000)(h:SbRow w base v l)(hv:w.1[vb]?=G (Al (qW s).toArray 130 (0,0)))(z:base<=w.1.size)(ty:TypeId):
  ∃g cap w',(kH #[48,48] ty #[v,C (G ⟨vb,0,O⟩) 1 1]).run prog w=.ok (C (G ⟨g,0,O⟩) (l.length+1) cap) w'/\Hid (SbRow w' base (C (G ⟨g,0,O⟩) (l.length+1) cap) (l++[s]))/\Hid (w.grownBy w' v.ownBlock)/\Hid (v.ownBlock=G g\/w.1.size<=g):=by
 obtain⟨m,y,B,E,D⟩:=info_parts qb1;obtain⟨g,cap,f,x,F,H,d,I⟩:=run_append_lies (P:=prog) w 48 ty base 130 m _ 3 40 underlying48 y B E D rfl ub v l.length (qr l) h
  ⟨vb,0,O⟩ 1 1 (qW s) rfl (World.news_of_block (cs:=(qW s).toArray) (t:=130) (fr:=(0,0)) hv) (λu q=>jD [s] u (by simpa [qr]using q)) ub (by unfold maxLen;omega) ub z _ rfl
 refine⟨g,cap,f,x,qd ?_,qd H,qd ?_⟩
 .show f.ownsRow base _ 3 _ (l++[s]).length (qr (l++[s]))
  rw[ce,du,vM];have e:qr [s]=qW s:=by simp[qr]
  rw[e];exact F
 rcases d with d|d;exact Am d;exact An ub
theorem qsw(l:List Sb)(s:Sb)(f:l.length<=1000)(v:Ap)(base vb:Nat)(w:Ao)(h:SbRow w base v l)(hv:w.1[vb]?=G (Al (qW s).toArray 130 (0,0)))(D:base<=w.1.size):
  ua 72 #[v,I J l.length,C (G ⟨vb,0,O⟩) 1 1] w (yF w base v (gX l l.length s)):=by
 obtain⟨g,cap,z,B,u,x,y⟩:=vns f h hv D 48
 have d:Hid (yF w base v (gX l l.length s) (Ak (C (G ⟨g,0,O⟩) (l.length+1) cap)) z):=qd (by
  have e:gX l l.length s=l++[s]:=by simp[gX]
  rw[e];refine⟨g,cap,uc, ?_,q9 x,q9 y⟩;have:=q9 u
  rwa [ce,du])
 have m:=vB h;generalize yF w base v (gX l l.length s)=Q at *;obtain⟨n,q⟩:=it l.length;rw[q]at B d m f |-;clear h u x y hv q;rcases m with⟨rfl,rfl⟩|⟨E,c0,rfl⟩
 .go_enter func72,ntmps72
  go_wp2
  exact q9 d
 by_cases hc:c0=n
 .subst hc
  go_enter func72,ntmps72
  go_wp2
  exact q9 d
 go_enter func72,ntmps72
 go_wp2
 exact q9 d
def qg0(ats:Array TypeId)(ty:TypeId)(args:Array Ap):Sem Ap:=Builtin.copy_ ats ty args
theorem vsm(ats:Array TypeId)(ty:TypeId)(args:Array Ap):Builtin.copy_ ats ty args=qg0 ats ty args:=rfl
attribute [local go_sem ↓] vsm
theorem vN(g o j:Nat):(⟨g,o,O⟩:Addr).add j=⟨g,o+j,O⟩:=by unfold Addr.add;split<;>simp_all
theorem qiz{l:List Sb}(d:k<=l.length)(s:Sb):qr (gX l k s)=(qr l).take (k * 3)++qW s++(qr l).drop (k * 3):=by
 unfold gX;rw[vM,qad l k d,<-List.singleton_append,vM,qac l k d,bu]
 congr 2
theorem vm6{a b:List Ap}(h:o+a.length+b.length<=cur.size):(jB (jB cur o a) (o+a.length) b).toList.take (o+a.length+b.length)=cur.toList.take o++a++b:=by
 rw[zn,zn];have d:(cur.toList.take o++a++cur.toList.drop (o+a.length)).take (o+a.length)=cur.toList.take o++a:=sn ud;rw[d];exact sn ud
theorem vfa{a b:List Ap}(h:o+a.length+b.length<=cur.size):(jB (jB cur (o+a.length) b) o a).toList.take (o+a.length+b.length)=cur.toList.take o++a++b:=by
 rw[zn,zn]
 have f:(cur.toList.take (o+a.length)++b++cur.toList.drop (o+a.length+b.length)).take o=cur.toList.take o:=by
  rw[bu,List.take_append_of_le_length ud,List.take_take]
  congr 1
  omega
 have d:(cur.toList.take (o+a.length)++b++cur.toList.drop (o+a.length+b.length)).drop (o+a.length)=b++cur.toList.drop (o+a.length+b.length):=by
  rw[bu];exact List.drop_left' ud
 rw[f,d,<-bu];exact sn ud
theorem va5(h:w.ownsRow base e 3 (C (G ⟨g,0,O⟩) n cap) n xs)(k:Nat):∀j v,(xs.drop k)[j]?=G v->w.cell? ((⟨g,k,O⟩:Addr).add j)=G v:=by
 intro j v d;rw[io]at d;have:=World.ownsRow.cells h (g:=g) rfl (k+j) v d;rw[vN]at this |-;rw[ee]at this;exact this
theorem vdu{l:List Sb}{s:Sb}(L:l.length=n)(h:SbRow w base (C (G ⟨g,0,O⟩) n c) l)(hk:k<n)(hc:c=n)(fR:n<=1000)(hv:w.1[vb]?=G (Al (qW s).toArray 130 (0,0)))(I8:base<=w.1.size):
  ∃H Af w5 w6 w7,(kH #[48,3] 48 #[C (G ⟨g,0,O⟩) k c,I J ((n:Int)+1 - (k:Int))]).run prog w=.ok (C (G ⟨H,0,O⟩) (n+1) Af) w5 /\
   (∀ty m,(qg0 #[48,48] ty #[C (G ⟨H,k * 3,O⟩) (n+1 - k) m,C (G ⟨vb,0,O⟩) 1 1]).run prog w5=.ok (goInt 1) w6) /\
   (∀ty m E,(qg0 #[48,48] ty #[C (G ⟨H,(k+1) * 3,O⟩) (n - k) m,C (G ⟨g,k * 3,O⟩) (n - k) E]).run prog w6.drew=.ok (goInt ((n - k:Nat):Int)) w7) /\
   n+1<=Af/\Af<=maxLen/\Hid (SbRow w7 base (C (G ⟨H,0,O⟩) (n+1) Af) (gX l k s))/\Hid (w.grownBy w7 (G g))/\Hid (w.1.size<=H):=by
 subst hc;obtain⟨R,S,F5,B8,D4⟩:=info_parts qb1;have M:w.ownsRow base 130 3 (C (G ⟨g,0,O⟩) c c) c (qr l):=by have:=h;unfold SbRow at this;rwa [L]at this
 obtain⟨I7,_,aF,cur,F2,I6,dO⟩:=vG M;have V4:(prog.info? 130).map (·.size)=G 3:=by rw[S];simp[B8]
 have mV:g<w.1.size:=(cf.1 F2).1;have fM:vb<w.1.size:=(cf.1 hv).1;have Y:=vD l;rw[L]at Y;have B:((qr l).take (k * 3)).length=k * 3:=by rw[cw];omega
 have q:((qr l).drop (k * 3)).length=(c - k) * 3:=by rw[dj,Y];omega
 have aO:(Builtin.firstCells R.size k (C (G ⟨g,0,O⟩) k c)).run prog w.drew=.ok ((qr l).take (k * 3)).toArray w.drew:=by
  rw[B8]
  exact run_firstCells_some w.drew 3 k ⟨g,0,O⟩ k c ((qr l).take (k * 3)) B (λj v d=>by
   rw[ll]at d
   split at d
   exact World.ownsRow.cells M (g:=g) rfl j v d
   cases d)
 have F:=Lib.run_append_grow_zeros w 48 3 48 130 R _ J J underlying48 underlying3 S F5 (G ⟨g,0,O⟩) k c ((qr l).take (k * 3)) aO (c+1 - k) ub ub ub ub (by rw[D4];omega) (by rw[D4,show k+(c+1 - k)=c+1 by omega];exact growslice_fits ub ub);rw[show k+(c+1 - k)=c+1 by omega,show((c+1 - k:Nat):Int)=(c:Int)+1 - (k:Int) by omega]at F;have Z:c+1<=grownCap w (c+1) c 130:=grownCap_ge w _ _ _;have PO:grownCap w (c+1) c 130<=maxLen:=grownCap_le_maxLen w (c+1) c 130 (by unfold maxLen;omega);generalize grownCap w (c+1) c 130=Af at *;obtain⟨ROW,N⟩:=uk (((qr l).take (k * 3)).toArray++Builtin.zeroCells (Value.cells (Ai #[I J 0,Ag O,C O 0 0])) (c+1 - k)++Builtin.zeroCells (Value.cells (Ai #[I J 0,Ag O,C O 0 0])) (Af - (c+1)):Array Ap);rw[<-N]at F;have wJ:(Value.cells (Ai #[I J 0,Ag O,C O 0 0])).size=3:=by decide +kernel
 have D:ROW.size=Af * 3:=by
  rw[N];simp only[Array.size_append,List.size_toArray,B,Builtin.zeroCells,Array.size_map,Array.size_range,wJ];omega
 have LM:ROW.toList.take (k * 3)=(qr l).take (k * 3):=by
  rw[N];simp only[Array.toList_append,bu];exact sn B
 have Q:(w.drew.alloc (Al ROW 130)).1[w.1.size]?=G (Al ROW 130 (0,0)):=heap_alloc_new w.drew _;have x:(qW s).length=3:=rfl;have y:Xb w (w.drew.alloc (Al ROW 130)):=uj.drew.alloc ui _;obtain⟨U,_⟩:=qk y;have hA:=λty m=>xR (P:=prog) (w.drew.alloc (Al ROW 130)) 48 48 ty 130 3 w.1.size (k * 3) (c+1 - k) m 1 ⟨vb,0,O⟩ 1 1 ROW _ (qW s) underlying48 V4 Q (by simp only[Nat.min_def];split<;>omega) x
  (λj v d=>by
   rw[vN,U vb _ fM];have:=World.news_of_block (w:=w) (cs:=(qW s).toArray) (t:=130) (fr:=(0,0)) hv j v (by simpa using d);rw[vN]at this
   exact this) (by rw[x,D];omega) (λu K=>jD [s] u (by simpa [qr]using K))
 have T:((w.drew.alloc (Al ROW 130)).setRow w.1.size (jB ROW (k * 3) (qW s))).1[w.1.size]?=G (Al (jB ROW (k * 3) (qW s)) 130 (0,0)):=setRow_heap _ _ _ _ _ _ Q;have f:(jB ROW (k * 3) (qW s)).size=Af * 3:=by rw[xW (by rw[x,D];omega),D]
 have hB:=λty m E=>xR (P:=prog) ((w.drew.alloc (Al ROW 130)).setRow w.1.size (jB ROW (k * 3) (qW s))).drew 48 48 ty 130 3 w.1.size ((k+1) * 3) (c - k) m (c - k) ⟨g,k * 3,O⟩ (c - k) E (jB ROW (k * 3) (qW s)) _ ((qr l).drop (k * 3)) underlying48 V4 T (by simp only[Nat.min_def];split<;>omega) q
  (λj v d=>by
   have:=va5 M (k * 3) j v d;rw[vN]at this |-;show((w.drew.alloc (Al ROW 130)).setRow w.1.size (jB ROW (k * 3) (qW s))).cell? _=_;rw[cell_setRow_other _ _ _ _ (by show g≠_;omega),U g _ mV]
   exact this) (by rw[q,f];omega) (λu K=>jD l u (ln K))
 refine⟨w.1.size,Af,_,_,_,F,hA,hB,Z,PO,qd ?_,qd ?_,qd ui⟩
 .show World.ownsRow _ base _ 3 _ (gX l k s).length (qr (gX l k s))
  rw[xa,L,qiz ub];refine⟨by simp only[ce,B,q,x];omega,An ⟨w.1.size,Af,_,rfl,I8,setRow_heap _ _ _ _ _ _ T,Z,PO, ?_, ?_⟩⟩;rw[xW (by rw[q,f];omega),f];have:=vm6 (cur:=ROW) (o:=k * 3) (a:=qW s) (b:=(qr l).drop (k * 3)) (by rw[x,q,D];omega);rw[x,q,LM]at this;rw[show(c+1) * 3=k * 3+3+(c - k) * 3 by omega,show(k+1) * 3=k * 3+3 by omega];exact this
 refine qne (g:=w.1.size) (b:=w.drew.alloc (Al ROW 130)) ⟨y.os,y.tape,y.output,y.size,λi h1 _=>y.block i h1⟩ ?_ ui;have z:=jq (w.drew.alloc (Al ROW 130)) w.1.size (jB ROW (k * 3) (qW s));exact kq (b:=((w.drew.alloc (Al ROW 130)).setRow w.1.size (jB ROW (k * 3) (qW s))).drew) ⟨z.os,z.tape,z.output,z.size,z.block⟩ (jq _ _ _)
theorem qnh(l:List Sb)(s:Sb)(n k c g:Nat)(d:l.length=n)(base vb:Nat)(w:Ao)(h:SbRow w base (C (G ⟨g,0,O⟩) n c) l)(q:k<n)(f:c=n)(x:n<=1000)(hv:w.1[vb]?=G (Al (qW s).toArray 130 (0,0)))(z:base<=w.1.size):
  ua 72 #[C (G ⟨g,0,O⟩) n c,I J k,C (G ⟨vb,0,O⟩) 1 1] w (yF w base (C (G ⟨g,0,O⟩) n c) (gX l k s)):=by
 obtain⟨H,m,L,K,p,R,u,M,N,y,B,D,F⟩:=vdu d h q f x hv z
 have E:Hid (yF w base (C (G ⟨g,0,O⟩) n c) (gX l k s) (Ak (C (G ⟨H,0,O⟩) (n+1) m)) p):=qd (by
  have e:(gX l k s).length=n+1:=by rw[xa,d]
  refine⟨H,m,by rw[e], ?_,q9 D,An F⟩;have:=q9 B
  rwa [e])
 generalize yF w base (C (G ⟨g,0,O⟩) n c) (gX l k s)=Q at *;subst f;unfold maxLen at y;go_enter func72,ntmps72
 go_wp2
 go_region
 all_goals go_wp2
 all_goals exact q9 E
end
section
attribute [local go_sem ↓] vsk
attribute [local go_sem ↓] vsm
theorem qnu{lb f:Nat}{s:Sb}(d:vb≠g)(hv:w.1[vb]?=G (Al (qW s).toArray 130 (0,0)))(u:w.1[g]?=G (Al cur 130 (0,0)))(x:cur.size=cap)(l:cap≠0):
  (callFunc 114 #[C (G ⟨vb,0,O⟩) 1 1,C (G ⟨g,o,O⟩) lb f]).run prog w=.ok (.value (Ah false)) w:=by
 obtain⟨z,q,B,y,D⟩:=info_parts qb1;have m:∀w,(Go.sizeOf 130).run prog w=.ok 3 w:=λw=>by simp[sizeOf,typeInfo,q,y]
 rw[run_callFunc_extern func114 uh uh uh (e:=Extern.SlicesOverlaps.overlaps #[48,48] #[4]) uh,
  Lib.run_overlaps_apart w 48 4 130 underlying48 3 m ⟨vb,0,O⟩ ⟨g,o,O⟩ 1 1 lb f d 130 130 3 cap (by simp[World.shape?,hv,qW]) (by simp[World.shape?,u,x]) l (by simp[World.frozen?,hv]) (by simp[World.frozen?,hv])]
 rfl
theorem vdv{l:List Sb}{s:Sb}(E:l.length=n)(h:SbRow w base (C (G ⟨g,0,O⟩) n c) l)(hk:k<n)(hc:n<c)(x:vb≠g)(hv:w.1[vb]?=G (Al (qW s).toArray 130 (0,0))):
  ∃w6 w7,(∀o lb K,(callFunc 114 #[C (G ⟨vb,0,O⟩) 1 1,C (G ⟨g,o,O⟩) lb K]).run prog w=.ok (.value (Ah false)) w) /\
   (∀ty f B,(qg0 #[48,48] ty #[C (G ⟨g,(k+1) * 3,O⟩) (n - k) f,C (G ⟨g,k * 3,O⟩) (n+1 - k) B]).run prog w.drew=.ok (goInt ((n - k:Nat):Int)) w6) /\
   (∀ty f,(qg0 #[48,48] ty #[C (G ⟨g,k * 3,O⟩) (n+1 - k) f,C (G ⟨vb,0,O⟩) 1 1]).run prog w6=.ok (goInt 1) w7) /\
   c<=maxLen/\Hid (SbRow w7 base (C (G ⟨g,0,O⟩) (n+1) c) (gX l k s))/\Hid (w.grownBy w7 (G g)):=by
 obtain⟨i0,R,F5,B8,D4⟩:=info_parts qb1;have J:w.ownsRow base 130 3 (C (G ⟨g,0,O⟩) n c) n (qr l):=by have:=h;unfold SbRow at this;rwa [E]at this
 obtain⟨Z,_,M,cur,H,z,U⟩:=vG J;have N:(prog.info? 130).map (·.size)=G 3:=by rw[R];simp[B8]
 have L:=vD l;rw[E]at L;have Y:((qr l).take (k * 3)).length=k * 3:=by rw[cw];omega
 have m:((qr l).drop (k * 3)).length=(n - k) * 3:=by rw[dj,L];omega
 have q:(qW s).length=3:=rfl;have T:=λty f B=>xR (P:=prog) w.drew 48 48 ty 130 3 g ((k+1) * 3) (n - k) f (n - k) ⟨g,k * 3,O⟩ (n+1 - k) B cur _ ((qr l).drop (k * 3)) underlying48 N H (by simp only[Nat.min_def];split<;>omega) m
  (λj v F=>va5 J (k * 3) j v F) (by rw[m,z];omega) (λu D=>jD l u (ln D))
 have I:(w.drew.setRow g (jB cur ((k+1) * 3) ((qr l).drop (k * 3)))).1[g]?=G (Al (jB cur ((k+1) * 3) ((qr l).drop (k * 3))) 130 (0,0)):=setRow_heap _ _ _ _ _ _ H;have d:(jB cur ((k+1) * 3) ((qr l).drop (k * 3))).size=c * 3:=by rw[xW (by rw[m,z];omega),z]
 have S:=λty f=>xR (P:=prog) (w.drew.setRow g (jB cur ((k+1) * 3) ((qr l).drop (k * 3)))) 48 48 ty 130 3 g (k * 3) (n+1 - k) f 1 ⟨vb,0,O⟩ 1 1 (jB cur ((k+1) * 3) ((qr l).drop (k * 3))) _ (qW s) underlying48 N I (by simp only[Nat.min_def];split<;>omega) q
  (λj v F=>by
   rw[vN,cell_setRow_other _ _ _ _ (by show vb≠g;exact x)];have:=World.news_of_block (w:=w) (cs:=(qW s).toArray) (t:=130) (fr:=(0,0)) hv j v (by simpa using F);rw[vN]at this
   exact this) (by rw[q,d];omega) (λu D=>jD [s] u (by simpa [qr]using D))
 refine⟨_,_,λo lb K=>qnu x hv H z ub,T,S,M,qd ?_,qd ?_⟩
 .show World.ownsRow _ base _ 3 _ (gX l k s).length (qr (gX l k s))
  rw[xa,E,qiz ub];refine⟨by simp only[ce,Y,m,q];omega,An ⟨g,c,_,rfl,Z,setRow_heap _ _ _ _ _ _ I,ub,M, ?_, ?_⟩⟩;rw[xW (by rw[q,d];omega),d];have:=vfa (cur:=cur) (o:=k * 3) (a:=qW s) (b:=(qr l).drop (k * 3)) (by rw[q,m,z];omega)
  have Q:cur.toList.take (k * 3)=(qr l).take (k * 3):=by
   have:=congrArg (List.take (k * 3)) U;rw[List.take_take,ot ub]at this;exact this
  rw[q,m,Q]at this;rw[show(n+1) * 3=k * 3+3+(n - k) * 3 by omega,show(k+1) * 3=k * 3+3 by omega];exact this
 have y:=jq w g (jB cur ((k+1) * 3) ((qr l).drop (k * 3)));exact kq (b:=w.drew.setRow g (jB cur ((k+1) * 3) ((qr l).drop (k * 3)))) ⟨y.os,y.tape,y.output,y.size,y.block⟩ (jq _ _ _)
theorem qni(l:List Sb)(s:Sb)(n k c g:Nat)(f:l.length=n)(base vb:Nat)(w:Ao)(h:SbRow w base (C (G ⟨g,0,O⟩) n c) l)(q:k<n)(x:n<c)(F:n<=1000)(d:vb≠g)(hv:w.1[vb]?=G (Al (qW s).toArray 130 (0,0))):
  ua 72 #[C (G ⟨g,0,O⟩) n c,I J k,C (G ⟨vb,0,O⟩) 1 1] w (yF w base (C (G ⟨g,0,O⟩) n c) (gX l k s)):=by
 obtain⟨E,m,p,u,H,y,z,B⟩:=vdv f h q x d hv
 have D:Hid (yF w base (C (G ⟨g,0,O⟩) n c) (gX l k s) (Ak (C (G ⟨g,0,O⟩) (n+1) c)) m):=qd (by
  have e:(gX l k s).length=n+1:=by rw[xa,f]
  refine⟨g,c,by rw[e], ?_,q9 B,Am rfl⟩;have:=q9 z
  rwa [e])
 generalize yF w base (C (G ⟨g,0,O⟩) n c) (gX l k s)=Q at *;unfold maxLen at y;go_enter func72,ntmps72
 go_wp2_with(simp only[p])
 go_region
 all_goals go_wp2
 all_goals exact q9 D
theorem qsv(l:List Sb)(s:Sb)(k:Nat)(q:k<=l.length)(f:l.length<=1000)(v:Ap)(base vb:Nat)(w:Ao)(h:SbRow w base v l)(d:v.ownBlock≠G vb)(hv:w.1[vb]?=G (Al (qW s).toArray 130 (0,0)))(m:base<=w.1.size):
  ua 72 #[v,I J k,C (G ⟨vb,0,O⟩) 1 1] w (yF w base v (gX l k s)):=by
 by_cases he:k=l.length
 subst he;exact qsw l s f v base vb w h hv m;rcases vB h with⟨_,u⟩|⟨g,c,rfl⟩;omega;have x:=(vG h).2.1
 by_cases hc:c=l.length
 exact qnh l s l.length k c g rfl base vb w h ub hc f hv m;exact qni l s l.length k c g rfl base vb w h ub ub f (λe=>d (by rw[e];rfl)) hv
def qi7(w:Ao)(l:List Sb)(e:Ending)(w':Ao):Prop:=∃v',e=Ak v'/\SbRow w' w.1.size v' l/\Below w.1.size w w'
theorem qvz{l:List Sb}(H:l.length<=1000)(h:SbRow w base (C (G ⟨g,0,O⟩) l.length c) l):
  ∃v' w',(kH #[48,48] 48 #[C (G ⟨w.1.size,0,O⟩) 0 0,C (G ⟨g,0,O⟩) l.length c]).run prog (w.alloc (Al #[] 130))=.ok v' w'/\Hid (qi7 w l (Ak v') w'):=by
 obtain⟨f,x,B,F,E⟩:=info_parts qb1
 have I:g<w.1.size:=by
  obtain⟨_,_,_,cur,D,_⟩:=vG h;exact(cf.1 D).1
 have z:=World.ownsRow_made (base:=w.1.size) (e:=130) (size:=3) w #[] 0 ui (bt _) rfl;have y:=h.alloc (Al #[] 130);obtain⟨v',w',m,ho,d,_,_⟩:=run_append_own_at (P:=prog) (w.alloc (Al #[] 130)) w.1.size 48 48 130 f _ 3 40 underlying48 x B F E rfl ub _ 0 [] z ⟨g,0,O⟩ l.length c (qr l) (vD l) (λj u s=>World.ownsRow.cells y (g:=g) rfl j u s) (jD l) (by unfold maxLen;omega) ub uc;refine⟨v',w',m,qd ⟨v',rfl, ?_, ?_⟩⟩
 .show World.ownsRow _ _ _ _ _ _ _
  simpa using ho
 refine⟨d.os,d.tape,d.output,by have:=d.size;simp at this;omega,λk q=>(d.block k ud (λe=>?_)).trans (ig w _ k q)⟩;simp[Value.ownBlock]at e;omega
theorem qmj(l:List Sb)(f:l.length<=1000)(v:Ap)(base:Nat)(w:Ao)(h:SbRow w base v l):
  ua 73 #[v] w (qi7 w l):=by
 rcases vB h with⟨rfl,m⟩|⟨g,c,rfl⟩
 .have d:Hid (qi7 w l (Ak (C O 0 0)) w):=qd ⟨_,rfl,by
   have e:l=[]:=List.length_eq_zero_iff.1 m;subst e
   exact dy _ _ _ _,uj⟩
  generalize qi7 w l=Q at *;have hq:=λw=>Lib.run_eql_slice_nil (P:=prog) w 48 _ O 0 0 0 0 underlying48
  simp only[Option.isNone_none]at hq;go_enter func73,ntmps73
  go_wp2
  exact q9 d
 obtain⟨v',w',p,d⟩:=qvz f h;generalize qi7 w l=Q at *;generalize l.length=n at *;have hq:=λw=>Lib.run_eql_slice_nil (P:=prog) w 48 _ (G ⟨g,0,O⟩) n c 0 0 underlying48
 simp only[Option.isNone_some]at hq;go_enter func73,ntmps73
 go_wp2
 exact q9 d
end
section
attribute [local go_sem ↓] vsk
def vcr(ats:Array TypeId)(ty:TypeId)(args:Array Ap):Sem Ap:=Builtin.clear_ ats ty args
theorem vsn(ats:Array TypeId)(ty:TypeId)(args:Array Ap):Builtin.clear_ ats ty args=vcr ats ty args:=rfl
attribute [local go_sem ↓] vsn
def qg6(l:List Sb)(k:Nat):List Sb:=l.take k++l.drop (k+1)
theorem kn{l:List Sb}(d:k<l.length):(qg6 l k).length=l.length - 1:=by simp[qg6];omega
theorem qwa{l:List Sb}(d:k<l.length):qr (qg6 l k)=(qr l).take (k * 3)++(qr l).drop ((k+1) * 3):=by
 unfold qg6;rw[vM,qad l k ub,qac l (k+1) ub]
def qfp(w:Ao)(base g c:Nat)(l:List Sb)(e:Ending)(w':Ao):Prop:=e=Ak (C (G ⟨g,0,O⟩) l.length c)/\SbRow w' base (C (G ⟨g,0,O⟩) l.length c) l/\w.grownBy w' (G g)
theorem qwb{l:List Sb}(q:l.length=n+1)(h:SbRow w base (C (G ⟨g,0,O⟩) (n+1) c) l)(hk:k<=n)(a:Addr)(Y:k<n->a=⟨g,(k+1) * 3,O⟩)(B:Nat):
  ∃w6 w7,(∀ty,(kH #[48,48] ty #[C (G ⟨g,0,O⟩) k c,C (G a) (n - k) B]).run prog w.drew=.ok (C (G ⟨g,0,O⟩) n c) w6) /\
   (∀ty y,(vcr #[48] ty #[C (G ⟨g,n * 3,O⟩) 1 y]).run prog w6=.ok (Aj #[]) w7) /\
   n+1<=c/\c<=maxLen/\Hid (qfp w base g c (qg6 l k) (Ak (C (G ⟨g,0,O⟩) n c)) w7):=by
 obtain⟨S,D,F5,B8,D4⟩:=info_parts qb1;have H:w.ownsRow base 130 3 (C (G ⟨g,0,O⟩) (n+1) c) (n+1) (qr l):=by have:=h;unfold SbRow at this;rwa [q]at this
 obtain⟨I7,Y8,M,cur,R,z,dO⟩:=vG H;have L:=vD l;rw[q]at L;have K:((qr l).take (k * 3)).length=k * 3:=by rw[cw];omega
 have f:((qr l).drop ((k+1) * 3)).length=(n - k) * 3:=by rw[dj,L];omega
 have E:=λty=>qby (P:=prog) w.drew 48 ty 130 S 3 g k c (n - k) B a cur _ ((qr l).drop ((k+1) * 3)) underlying48 D B8 R f ub
  (λj v x=>by
   by_cases Z0:k<n
   .rw[Y Z0]
    exact va5 H ((k+1) * 3) j v x
   .rw[lz (by rw[f];omega)]at x
    cases x) (by rw[f,z];omega) (λu T=>jD l u (ln T))
 rw[show k+(n - k)=n by omega]at E;have F:(w.drew.setRow g (jB cur (k * 3) ((qr l).drop ((k+1) * 3)))).1[g]?=G (Al (jB cur (k * 3) ((qr l).drop ((k+1) * 3))) 130 (0,0)):=setRow_heap _ _ _ _ _ _ R;have d:(jB cur (k * 3) ((qr l).drop ((k+1) * 3))).size=c * 3:=by rw[xW (by rw[f,z];omega),z]
 have s:∀w,(zeroValue 130).run prog w=.ok (Ai #[I J 0,Ag O,C O 0 0]) w:=λw=>by simp[zeroValue,typeInfo,D,F5]
 have N:(Value.cells (Ai #[I J 0,Ag O,C O 0 0])).size=3:=by decide +kernel
 have Z:=λty y=>qu2 (P:=prog) (w.drew.setRow g (jB cur (k * 3) ((qr l).drop ((k+1) * 3)))) 48 130 ty _ 3 g (n * 3) 0 y _ _ underlying48 s N (by decide +kernel) F (by rw[d];omega)
 refine⟨_,_,E,Z,Y8,M,qd ⟨by rw[kn ub,q];rfl, ?_, ?_⟩⟩
 .show World.ownsRow _ base _ 3 _ (qg6 l k).length (qr (qg6 l k))
  rw[kn ub,q,qwa ub,show n+1 - 1=n by omega];have Q:=kO (Value.cells (Ai #[I J 0,Ag O,C O 0 0])) (0+1);rw[N]at Q;refine⟨by simp only[ce,K,f];omega,An ⟨g,c,_,rfl,I7,setRow_heap _ _ _ _ _ _ F,ub,M, ?_, ?_⟩⟩;rw[xW (by rw[d,Q];omega),d];rw[zn,bu,List.take_append_of_le_length (by rw[cw,Array.length_toList,d];omega),List.take_take,Nat.min_self,zn]
  have U:cur.toList.take (k * 3)=(qr l).take (k * 3):=by
   have:=congrArg (List.take (k * 3)) dO;rw[List.take_take,ot ub]at this;exact this
  rw[U];exact sn (by rw[ce,K,f];omega)
 have m:=jq w g (jB cur (k * 3) ((qr l).drop ((k+1) * 3)));exact kq (b:=w.drew.setRow g (jB cur (k * 3) ((qr l).drop ((k+1) * 3)))) ⟨m.os,m.tape,m.output,m.size,m.block⟩ (jq _ _ _)
theorem qse(l:List Sb)(n k c g:Nat)(d:l.length=n+1)(base:Nat)(w:Ao)(h:SbRow w base (C (G ⟨g,0,O⟩) (n+1) c) l)(q:k<=n)(z:n<=1000):
  ua 76 #[C (G ⟨g,0,O⟩) (n+1:Nat) c,I J k,I J ((k:Int)+1)] w (qfp w base g c (qg6 l k)):=by
 have B:=(vG (by have:=h;unfold SbRow at this;rwa [d]at this:w.ownsRow base 130 3 (C (G ⟨g,0,O⟩) (n+1) c) (n+1) (qr l))).2.1
 by_cases hck:c=k+1
 .obtain rfl:n=k:=ub
  subst hck;obtain⟨x,u,s,y,_,f,m⟩:=qwb d h q ⟨g,0,O⟩ (λh=>ub) 0;rw[ld]at s;generalize qfp w base g (n+1) (qg6 l n)=Q at *;unfold maxLen at f;go_enter func76,ntmps76
  go_wp2
  go_region
  all_goals go_wp2
  all_goals exact q9 m
 obtain⟨x,u,s,y,_,f,m⟩:=qwb d h q ⟨g,(k+1) * 3,O⟩ (λ_=>rfl) (c - (k+1));generalize qfp w base g c (qg6 l k)=Q at *;unfold maxLen at f;go_enter func76,ntmps76
 go_wp2
 go_region
 all_goals go_wp2
 all_goals exact q9 m
end
deriving instance DecidableEq for Mg
theorem qfu(x y:Mg):bef x y=true↔y.pri<x.pri\/(x.pri=y.pri/\x.K<y.K):=by
 unfold bef
 by_cases h:x.pri=y.pri
 simp[h];simp[h]
theorem qxs(x y:Mg):bef x y=false↔x.pri<y.pri\/(x.pri=y.pri/\y.K<=x.K):=by
 rw[mr,Ne,qfu];omega
theorem qc6{x y z:Mg}(f:bef x y=false)(d:bef y z=false):bef x z=false:=by
 rw[qxs]at *;omega
theorem vkk{x y:Mg}(h:bef x y=true):bef y x=false:=by
 rw[qxs];rw[qfu]at h;omega
theorem qnq(x:Mg):bef x x=false:=by
 rw[qxs];omega
theorem qqo{ms:List Mg}(x y:Mg)(f:i<ms.length)(d:j<ms.length)(t:Nat):((ms.set i y).set j x)[t]?=if t=j then G x else if t=i then G y else ms[t]?:=by
 by_cases h1:t=j
 subst h1;rw[bo rfl,mw (by simpa using d)];rw[ak h1,nz (λe=>h1 e.symm)]
 by_cases h2:t=i
 subst h2;rw[bo rfl,mw f];rw[ak h2,nz (λe=>h2 e.symm)]
theorem qkj{ms:List Mg}{x y:Mg}(q:ms[i]?=G x)(p:ms[j]?=G y)(m:i≠j):((ms.set i y).set j x).Perm ms:=by
 obtain⟨l,f⟩:=aj.1 q;obtain⟨s,d⟩:=aj.1 p;rw[List.perm_iff_count];intro a;rw[List.count_set (by simpa using s),List.count_set l,List.getElem_set_ne m]
 have u:(if ms[i]==a then 1 else 0)<=ms.count a:=by
  split
  rename_i h;have:ms[i]=a:=by simpa using h
  exact List.count_pos_iff.2 (this ▸ fm l);exact bt _
 rw[f,d]at *;omega
def HeapL(ms:List Mg):Prop:=∀(i:Nat) (x y:Mg),ms[i+1]?=G x->ms[i / 2]?=G y->bef x y=false
theorem HeapL.nil:HeapL []:=λi x y h=>by simp at h
theorem HeapL.head{ms:List Mg}(h:HeapL ms){t:Mg}(m:ms[0]?=G t):∀(n i:Nat),i<n->∀x,ms[i]?=G x->bef x t=false:=by
 intro n
 induction n with
 | zero=>intro i l;omega
 | succ n ih=>
  intro i l x d
  cases i with
  | zero=>
   rw[m]at d;cases d;exact qnq _
  | succ i=>
   have q:=(aj.1 d).1;obtain⟨y,f⟩:∃y,ms[i / 2]?=G y:=⟨_,ag ub⟩;exact qc6 (h i x y d f) (ih (i / 2) ub y f)
def vs5(ms:List Mg)(k:Nat):Prop:=(∀(i:Nat) (x y:Mg),i+1≠k->ms[i+1]?=G x->ms[i / 2]?=G y->bef x y=false)/\(∀(i:Nat) (x y:Mg),i / 2=k->0<k->ms[i+1]?=G x->ms[(k - 1) / 2]?=G y->bef x y=false)
theorem qz8:∀(n:Nat) (ms:List Mg) (k:Nat),k<=n->k<ms.length->vs5 ms k->HeapL (qa7 n ms k)/\(qa7 n ms k).Perm ms:=by
 intro n
 induction n with
 | zero=>
  intro ms k F B m;have:k=0:=ub;subst this;exact⟨λi x y=>m.1 i x y ub,List.Perm.refl _⟩
 | succ n ih=>
  intro ms k F B m
  cases k with
  | zero=>
   rw[qf9];exact⟨λi x y=>m.1 i x y ub,List.Perm.refl _⟩
  | succ k=>
   obtain⟨x,z⟩:∃x,ms[k+1]?=G x:=⟨_,ag B⟩;obtain⟨y,l⟩:∃y,ms[k / 2]?=G y:=⟨_,ag ub⟩
   cases hb:bef x y with
   | false=>
    rw[qf8 z l hb];refine⟨λi a b s f=>?_,List.Perm.refl _⟩
    by_cases hik:i+1=k+1
    have:i=k:=ub;subst this;rw[z]at s;rw[l]at f;cases s;cases f;exact hb;exact m.1 i a b hik s f
   | true=>
    rw[qr6 z l hb];have D:=vkk hb;have C:k+1≠k / 2:=ub;have E:=qqo (ms:=ms) (i:=k+1) (j:=k / 2) x y B ub
    have:=ih ((ms.set (k+1) y).set (k / 2) x) (k / 2) ub ud (by
     constructor;intro i a b s f d;rw[E]at f d;rw[ak s]at f
     by_cases q:i+1=k+1
     have:i=k:=ub;subst this;rw[bo rfl]at f d;cases f;cases d;exact D;rw[ak q]at f
     by_cases h5:i / 2=k / 2
     rw[bo h5]at d;cases d;rw[<-h5]at l;exact qc6 (m.1 i a y q f l) D;rw[ak h5]at d
     by_cases h6:i / 2=k+1
     rw[bo h6]at d;cases d;exact m.2 i a y h6 ub f (by simpa using l);rw[ak h6]at d;exact m.1 i a b q f d;intro i a b s f d q;rw[E]at d q;rw[ak ub,ak ub]at q;have u:bef y b=false:=m.1 (k / 2 - 1) y b ub (by rw[show k / 2 - 1+1=k / 2 by omega];exact l) q;rw[ak ub]at d
     by_cases h5:i+1=k+1
     rw[bo h5]at d;cases d;exact u;rw[ak h5]at d;rw[<-s]at l
     exact qc6 (m.1 i a y h5 d l) u)
    exact⟨this.1,this.2.trans (qkj z l C)⟩
theorem qyp{ms:List Mg}(h:HeapL ms)(m:Mg):HeapL (qbx ms m)/\(qbx ms m).Perm (m::ms):=by
 unfold qbx qjx
 have:=qz8 (ms.length+1) (ms++[m]) ms.length ub uc (by
  constructor;intro i x y q f d;have l:=(aj.1 f).1;simp at l;rw[cg ub]at f d;exact h i x y f d;intro i x y q f d s;have l:=(aj.1 d).1;simp at l
  omega)
 exact⟨this.1,this.2.trans List.perm_append_comm⟩
theorem qn2(ms:List Mg)(k:Nat)(H:k<ms.length):∃f x,yn ms k=f/\ms[f]?=G x/\(f=k\/(f=2 * k+1\/f=2 * k+2)/\(∀z,ms[k]?=G z->bef x z=true))/\(∀(i:Nat) (a:Mg),i / 2=k->ms[i+1]?=G a->bef a x=false):=by
 obtain⟨z,q⟩:∃z,ms[k]?=G z:=⟨_,ag H⟩;unfold yn
 by_cases h1:2 * k+1<ms.length
 obtain⟨a,l⟩:∃a,ms[2 * k+1]?=G a:=⟨_,ag h1⟩;have E:∀f x,ms[f]?=G x->(f=k/\x=z/\bef a z=false\/f=2 * k+1/\x=a/\bef a z=true) ->
   ∃g y,jz ms 1 (2 * k+1+1) f=g/\ms[g]?=G y/\(g=k\/(g=2 * k+1\/g=2 * k+2)/\(∀z,ms[k]?=G z->bef y z=true))/\(∀(i:Nat) (a:Mg),i / 2=k->ms[i+1]?=G a->bef a y=false):=by
  intro f x u s
  have C:bef a x=false:=by
   rcases s with⟨_,rfl,h⟩|⟨_,rfl,h⟩
   .exact h
   .exact qnq _
  by_cases h2:2 * k+1+1<ms.length
  .obtain⟨b,hb⟩:∃b,ms[2 * k+1+1]?=G b:=⟨_,ag h2⟩
   rw[jz,bo h2,jz,qbw,hb,u];simp only
   cases LB:bef b x with
   | true=>
    refine⟨2 * k+1+1,b,uc,hb,An ⟨An rfl,λD m=>?_⟩,λi c B d=>?_⟩
    .rw[q]at m
     cases m;rcases s with⟨_,rfl,h⟩|⟨_,rfl,h⟩
     .exact LB
     .rw[qfu]at *;omega
    .have:i+1=2 * k+1\/i+1=2 * k+1+1:=ub
     rcases this with e|e
     .rw[e,l]at d
      cases d;exact qc6 C (vkk LB)
     .rw[e,hb]at d
      cases d;exact qnq _
   | false=>
    refine⟨f,x,uc,u, ?_,λi c B d=>?_⟩
    .rcases s with⟨rfl,rfl,h⟩|⟨rfl,rfl,h⟩
     .exact Am rfl
     .exact An ⟨Am rfl,λD m=>by rw[q]at m;cases m;exact h⟩
    .have:i+1=2 * k+1\/i+1=2 * k+1+1:=ub
     rcases this with e|e
     .rw[e,l]at d
      cases d;exact C
     .rw[e,hb]at d
      cases d;exact LB
  .rw[jz,ak h2]
   refine⟨f,x,rfl,u, ?_,λi c B d=>?_⟩
   .rcases s with⟨rfl,rfl,h⟩|⟨rfl,rfl,h⟩
    .exact Am rfl
    .exact An ⟨Am rfl,λD m=>by rw[q]at m;cases m;exact h⟩
   .have F:=(aj.1 d).1
    have e:i+1=2 * k+1:=ub;rw[e,l]at d;cases d;exact C
 rw[jz,bo h1]
 cases hb:bef a z with
 | true=>
  have e:qbw ms (2 * k+1) k=2 * k+1:=by rw[qbw,l,q];simp[hb]
  rw[e];exact E _ a l (An ⟨rfl,rfl,hb⟩)
 | false=>
  have e:qbw ms (2 * k+1) k=k:=by rw[qbw,l,q];simp[hb]
  rw[e];exact E _ z q (Am ⟨rfl,rfl,hb⟩)
 rw[jz,ak h1];refine⟨k,z,rfl,q,Am rfl,λi a B l=>?_⟩;have F:=(aj.1 l).1;omega
def vs6(ms:List Mg)(k:Nat):Prop:=(∀(i:Nat) (x y:Mg),i / 2≠k->ms[i+1]?=G x->ms[i / 2]?=G y->bef x y=false)/\(∀(i:Nat) (x y:Mg),i / 2=k->0<k->ms[i+1]?=G x->ms[(k - 1) / 2]?=G y->bef x y=false)
theorem vac:∀(n:Nat) (ms:List Mg) (k:Nat),ms.length<k+n->k<ms.length->vs6 ms k->HeapL (qae n ms k)/\(qae n ms k).Perm ms:=by
 intro n
 induction n with
 | zero=>intro ms k H u;omega
 | succ n ih=>
  intro ms k H u B;obtain⟨f,y,J,q,K,D⟩:=qn2 ms k u;obtain⟨x,C⟩:∃x,ms[k]?=G x:=⟨_,ag u⟩;rw[qae,J]
  by_cases hfk:f=k
  rw[bo hfk];subst hfk;refine⟨λi a b s d=>?_,List.Perm.refl _⟩
  by_cases hik:i / 2=f
  rw[hik,q]at d;cases d;exact D i a hik s;exact B.1 i a b hik s d;rw[ak hfk,C,q];simp only
  obtain⟨I,M⟩:(f=2 * k+1\/f=2 * k+2)/\(∀z,ms[k]?=G z->bef y z=true):=by
   rcases K with h|h;exact absurd h hfk;exact h
  have L:=M x C;have E:=(aj.1 q).1;have F:=qqo (ms:=ms) (i:=k) (j:=f) x y u E
  have:=ih ((ms.set k y).set f x) f ud (by simpa using E) (by
   constructor
   .intro i a b s d l
    rw[F]at d l;rw[ak s]at l
    by_cases m:i / 2=k
    rw[bo m]at l;cases l
    by_cases h5:i+1=f
    rw[bo h5]at d;cases d;exact vkk L;rw[ak h5,ak ub]at d;exact D i a m d;rw[ak m]at l;rw[ak ub]at d
    by_cases h5:i+1=k
    .rw[bo h5]at d
     cases d;refine B.2 (f - 1) y b ub ub (by rw[show f - 1+1=f by omega];exact q) ?_;rw[show(k - 1) / 2=i / 2 by omega];exact l
    rw[ak h5]at d;exact B.1 i a b m d l
   intro i a b s d l m;rw[F]at l m;rw[ak ub,bo ub]at m;cases m;rw[ak ub,ak ub]at l
   exact B.1 i a y ub l (by rw[s];exact q))
  exact⟨this.1,this.2.trans (qkj C q (λe=>hfk e.symm))⟩
theorem vf3{ms:List Mg}(h:HeapL ms){t:Mg}(f:ms.head?=G t):HeapL (qec ms)/\(t::qec ms).Perm ms:=by
 obtain⟨r,rfl⟩:∃r,ms=t::r:=by
  cases ms with
  | nil=>simp at f
  | cons a r=>simp at f;exact⟨r,by rw[f]⟩
 rcases(by rcases List.eq_nil_or_concat r with e|⟨d,y,e⟩;exact Am e;exact An ⟨d,y,by rw[e,List.concat_eq_append]⟩:r=[]\/∃d y,r=d++[y]) with rfl|⟨d,y,rfl⟩
 have e:qec [t]=[]:=by
  simp only[qec,List.getLast?_singleton];rfl
 rw[e];exact⟨HeapL.nil,List.Perm.refl _⟩
 have e:qec (t::(d++[y]))=qht (y::d) 0:=by
  have m:(t::(d++[y])).getLast?=G y:=by
   rw[<-dk,List.getLast?_append];simp
  simp only[qec,m]
  congr 1
  unfold qbh;simp
 have s:=vac ((y::d).length+1) (y::d) 0 ub uc (by
  constructor;intro i a b C q x;have m:=(aj.1 q).1;have z:i<d.length:=by simpa using m
  obtain⟨j,u⟩:∃j,i / 2=j+1:=⟨i / 2 - 1,ub⟩;have B:j<d.length:=ub;refine h i a b ?_ ?_;rw[List.getElem?_cons_succ,cg z];simpa using q;rw[u,List.getElem?_cons_succ]at x;rw[u,List.getElem?_cons_succ,cg B];exact x;intro i a b _ q
  omega)
 rw[e];refine⟨s.1,(List.Perm.cons t s.2).trans ?_⟩;exact List.Perm.cons t (List.perm_append_comm (l₁:=[y]) (l₂:=d))
theorem qyn{ms L:List Mg}{x:Mg}(h:HeapL ms)(hp:ms.Perm (x::L))(m:∀a∈L,bef x a=true):ms.head?=G x/\HeapL (qec ms)/\(qec ms).Perm L:=by
 obtain⟨t,d⟩:∃t,ms.head?=G t:=by
  cases ms with
  | nil=>exact absurd hp.symm uc
  | cons a r=>exact⟨a,rfl⟩
 have f:ms[0]?=G t:=by rw[<-oq];exact d
 have z:x∈ms:=hp.symm.subset uc;obtain⟨i,q⟩:=dd z;have l:bef x t=false:=h.head f (i+1) i ub x q;have B:t∈x::L:=hp.subset (bg f)
 have e:t=x:=by
  rcases eo.1 B with e|s;exact e;have:=m t s;rw[l]at this;cases this
 subst e;obtain⟨y,u⟩:=vf3 h d;exact⟨d,y,List.Perm.cons_inv (u.trans hp)⟩
end Go.Proofs.YtdmmmgodfceilaaGreatDoor
