/- Rows of bytes that gro -/
import Derived.Test.YtmepkbgodcffoaaGreatDoorM16
import Derived.Lib.AppendStr
import Derived.Lib.Overlaps
import Derived.Lib.AppendZerosOnto
set_option maxHeartbeats 8000000
set_option maxRecDepth 100000
namespace Go.Proofs.YtmepkbgodcffoaaGreatDoor
open Go.RowKit Go.Proofs.Tryz
open _root_.List renaming length->A
open Go.World renaming setCell->B,ownsRow->ue
open Go.Value renaming ownBlock->ug,agg->Ai,bool->Ah,int->I,pointer->Ag,slice->C,string->Y,tuple->Aj
open Bool renaming false->uh,true->ui
open Go.Addr renaming mk->D
open _root_.Array renaming size->Z
open Go renaming Value->Ap,World->Ao
open Go.Ending renaming returned->Ak
open Go.IntKind renaming i64->J
open Go.Obj renaming cells->Al
open Option renaming none->O,some->G
open Or renaming inl->Am,inr->An
variable{t:Ast}{x y:Co}{ms:List Mg}{l:uk}{xs:List Ap}{uc b base cap g hb ho k n o size:Nat}{r:Option Nat}{e:TypeId}{v v' vx vy:Ap}{W a c w w':Ao}
section
attribute [local go_sem ↓] vp
def vi(l:List UInt8):List Ap:=l.map λx=>I .u8 (x.toNat:Int)
def OB(w:Ao)(base:Nat)(v:Ap)(l:List UInt8):Prop:=ue w base 5 1 v (A l) (vi l)
theorem OB.app(h:OB W base v l)(hb:base<=Z W.1)(x:UInt8)(f:Int)(m:f=(x.toNat:Int))(L:A l<=1000000)(ty:TypeId)(H:Nat)(B:Z W.1=H){W':Ao}(z:W'=W.alloc (Al #[I .u8 f] 5)):
  ∃g cap d,(xb #[65,65] ty #[v,C (G (D H 0 O)) 1 1]).run prog W'=.ok (C (G (D g 0 O)) (A l+1) cap) d /\
   Hid (OB d base (C (G (D g 0 O)) (A l+1) cap) (l++[x]))/\Hid (Below base W d):=by
 subst B z m;obtain⟨j,u,E,J,F⟩:=info_parts pd;have i:=World.ownsRow.alloc h (Al #[I .u8 (x.toNat:Int)] 5);obtain⟨g,cap,d,q,N,K,M,_⟩:=run_append_lies (P:=prog) (W.alloc (Al #[I .u8 (x.toNat:Int)] 5)) 65 ty base 5 j _ 1 1 underlying65 u E J F rfl uq v (A l) (vi l) i
  ⟨Z W.1,0,O⟩ 1 1 [I .u8 (x.toNat:Int)] rfl (World.news_of_block (cs:=#[I .u8 (x.toNat:Int)]) (t:=5) (fr:=(0,0)) (heap_alloc_new W _)) (by simp[Value.oneCell']) uq (by unfold maxLen;omega) uq ut _ rfl
 refine⟨g,cap,d,q,qd ?_,qd ?_⟩
 grind[vi,OB]
 exact Go.RowKit.Below.grown (((Below.refl base W).alloc hb _)) K ut (λk s=>(i.lt k s).1)
theorem OB.form(h:OB w base v l):∃a c,v=C a (A l) c:=by
 obtain⟨rfl,d⟩|⟨g,cap,cur,rfl,_⟩:=h.2<;>grind
theorem qge(l:uk):Lib.strCells (BS l)=vi l:=by
 simp[Lib.strCells,vi,BS]
theorem OB.appText(h:OB W base v l)(hb:base<=Z W.1)(s:uk)(D:A l+A s<=1000000)(ty:TypeId):
  ∃v' d,(xb #[65,9] ty #[v,Y (BS s)]).run prog W=.ok v' d/\Hid (OB d base v' (l++s))/\Hid (Below base W d):=by
 obtain⟨i,p,q,z,u⟩:=info_parts pd;have f:(BS s).size=A s:=qI s;obtain⟨v',d,j,B,C,_⟩:=Lib.run_append_own_string (P:=prog) W base 65 9 ty 5 i underlying65 underlying9 p q z u v (A l) (vi l) h (BS s) (by grind[maxLen]) (by rw[f];omega) hb;rw[f,qge]at B;refine⟨v',d,j,qd ?_,qd ?_⟩
 grind[vi,OB]
 exact Go.RowKit.Below.grown (Below.refl base W) C hb (λk m=>(World.ownsRow.lt h k m).1)
def yM(base:Nat)(W:Ao)(l:List UInt8)(e:Ending)(w':Ao):Prop:=∃v,e=Ak v/\OB w' base v l/\Below base W w'
def qdd(s:List UInt8):List UInt8:=UInt8.ofNat (A s)::s
theorem gF(base:Nat)(v:Ap)(l s:uk)(W:Ao)(h:OB W base v l)(hb:base<=Z W.1)(D:A l+A s<=900000)(C:A s<=255)(Q:Ending->Ao->Prop)(d:∀e w',yM base W (l++qdd s) e w'->Q e w'):
  uo 150 #[v,Y (BS s)] W Q:=by
 have j:=qd d;clear d;have B:(BS s).size=A s:=qI s;obtain⟨a,c,rfl⟩:=h.form;obtain⟨g,cap,z,F,m,f⟩:=h.app hb (UInt8.ofNat (A s)) (A s:Int) (by rw[mx];simp;omega) uq 65 _ rfl rfl;obtain⟨v',u,E,i,q⟩:=(q9 m).appText (bu hb f.size) s ut 65;go_enter func150,ntmps150
 go_wp2
 exact q9 j _ _ ⟨_,rfl,by have:=q9 i;rwa[bw]at this,f.trans q⟩
def vcb(n:Int)(k:Nat):UInt8:=UInt8.ofNat (n / 2 ^ (8 * k) % 256).toNat
def xQ(n:Int):Nat->List UInt8
 | 0=>[]
 | k+1=>xQ n k++[vcb n k]
theorem jq(n:Int)(k:Nat):A (xQ n k)=k:=by
 induction k<;>grind[xQ]
theorem qfd(n:Int)(k:Nat):n / 2 ^ (8 * k) % 256=((vcb n k).toNat:Int):=by
 have f:=Int.emod_nonneg (n / 2 ^ (8 * k)) (show(256:Int)≠0 by decide);have d:=Int.emod_lt_of_pos (n / 2 ^ (8 * k)) (show(0:Int)<256 by decide);unfold vcb;rw[mx];omega
theorem qgl(base:Nat)(v:Ap)(l:uk)(n:Int)(W:Ao)(h:OB W base v l)(hb:base<=Z W.1)(F:A l<=900000)(Q:Ending->Ao->Prop)(j:∀e w',yM base W (l++xQ n 8) e w'->Q e w'):
  uo 149 #[v,I J n] W Q:=by
 have D:=qd j;clear j;have N:=qd h;obtain⟨a,c,rfl⟩:=h.form;go_enter func149,ntmps149
 go_wp2
 go_loopw [0,6] (λu i wr=>∃(k:Nat),k<=8/\i=I J k/\Hid (OB wr base u (l++xQ n k))/\Hid (Below base W wr)) (λ_ i _=>8 - (intOf i).toNat)
 exact⟨0,uu,rfl,by rwa[xQ,gs],qd uy⟩;obtain⟨k,G,rfl,d,f⟩:=hrel;have s:A (l++xQ n k)<=1000000:=by rw[cd,jq];omega
 obtain⟨L,m⟩:=ie (l++xQ n k);rw[m]at d s;have q:=qd m;obtain⟨K,H,rfl⟩:=(q9 d).form
 by_cases FV:k<8
 .have eK:=(q9 f).size
  obtain⟨g,cap,E,M,z,C⟩:=(q9 d).app uq (vcb n k) _ (qfd n k) s 65 _ rfl rfl;have B:=qd (f.trans C)
  go_wp2
  exact⟨⟨k+1,uq,rfl,qd (by rw[xQ,<-bw,q9 q];exact q9 z),B⟩,by simp[intOf];omega⟩
 have:k=8:=uq;subst this
 go_wp2
 exact q9 D _ _ ⟨_,rfl,by rw[q9 q];exact q9 d,q9 f⟩
end
section
set_option linter.unusedSimpArgs false
set_option linter.unusedVariables false
attribute [local go_sem ↓] vp
def encT(t:Tm):List UInt8:=
 if t.op=1 then UInt8.ofNat t.op::xQ t.M 8
 else if t.op=22 then[UInt8.ofNat t.op,UInt8.ofNat t.left]++qdd t.esc++qdd t.str
 else if t.op=0\/t.op=2 then UInt8.ofNat t.op::qdd t.str
 else if jH t.op then[UInt8.ofNat t.op,UInt8.ofNat t.right,UInt8.ofNat t.left]
 else if t.op=5\/t.op=23 then[UInt8.ofNat t.op,UInt8.ofNat t.left]
 else[UInt8.ofNat t.op]
structure WSt(base:Nat)(W:Ao)(l:List UInt8)(tb:Nat)(t:Tm)(w':Ao)(v':Ap):Prop where
 ob:OB w' base v' l
 tm:TmAt w' tb t
 ne:ug v'≠G tb
 bel:Below base W w'
 ge:base<=w'.1.size
theorem WSt.start(h:OB W base v l)(hb:base<=Z W.1)(t:Tm)(ty:TypeId):
  WSt base W l (Z W.1) t (W.alloc (Al #[I J t.op,I J t.left,I J t.right,I J t.M,Y (BS t.str),Y (BS t.esc)] ty)) v:=by
 refine⟨World.ownsRow.alloc h _,⟨ur, ?_, ?_, ?_, ?_, ?_, ?_,λj=>?_⟩,λe=>md ((World.ownsRow.lt h _ e).2),uy.alloc hb _,ut⟩<;>simp[go_sem]
theorem WSt.app{f:Nat}{t:Tm}(h:WSt base W l f t w' v')(x:UInt8)(m:Int)(z:m=(x.toNat:Int))(U:A l<=1000000)(n:Nat)(Q:A l=n)(H:Nat)(K:Z w'.1=H):
  ∃g cap d,(xb #[65,65] 65 #[v',C (G (D H 0 O)) 1 1]).run prog (w'.alloc (Al #[I .u8 m] 5))=.ok (C (G (D g 0 O)) (n+1) cap) d /\
   Hid (WSt base W (l++[x]) f t d (C (G (D g 0 O)) (n+1) cap)):=by
 subst K z Q;obtain⟨s,F,R,T,S⟩:=info_parts pd;have L:=h.ge;have q:=World.ownsRow.alloc h.ob (Al #[I .u8 (x.toNat:Int)] 5);obtain⟨g,cap,d,B,X,j,i,_⟩:=run_append_lies (P:=prog) (w'.alloc (Al #[I .u8 (x.toNat:Int)] 5)) 65 65 base 5 s _ 1 1 underlying65 F R T S rfl uq v' (A l) (vi l) q
  ⟨Z w'.1,0,O⟩ 1 1 [I .u8 (x.toNat:Int)] rfl (World.news_of_block (cs:=#[I .u8 (x.toNat:Int)]) (t:=5) (fr:=(0,0)) (heap_alloc_new w' _)) (by simp[Value.oneCell']) uq (by unfold maxLen;omega) uq ut _ rfl
 have u:=j.size;simp at u;have M:=h.tm.lt;have N:Below base w' d:=Go.RowKit.Below.grown (((Below.refl base w').alloc L _)) j ut (λk E=>(q.lt k E).1);refine⟨g,cap,d,B,qd ⟨?_, ?_, ?_,h.bel.trans N,uq⟩⟩
 .show ue _ _ _ _ _ _ _
  rwa[cd,dj,vi,dq]
 exact h.tm.same uq ((j.block f ut (λe=>h.ne e.symm)).trans (ik w' _ f M));intro e;have J:g=f:=by simpa [Value.ownBlock]using e
 subst J;obtain i|i:=i;exact h.ne i;simp at i;omega
structure SmallT(t:Tm):Prop where
 left:t.left<=255
 right:t.right<=255
 str:A t.str<=255
 esc:A t.esc<=255
theorem qh2(h:n<=255):(n:Int)=((UInt8.ofNat n).toNat:Int):=by rw[mx];omega
theorem vtn(base:Nat)(v:Ap)(l:uk)(t:Tm)(W:Ao)(h:OB W base v l)(hb:base<=Z W.1)(m:A l<=800000)(d:SmallT t)(ho:t.op=0)(Q:Ending->Ao->Prop)(q:∀e w',yM base W (l++encT t) e w'->Q e w'):
  uo 102 #[tmV t,v] W Q:=by
 have s:encT t=UInt8.ofNat 0::qdd t.str:=by simp[encT,ho,jH]
 have B:=qd q;rw[s]at B;clear q;have j:=qd (WSt.start h hb t 187);obtain⟨a,c,rfl⟩:=h.form;have I:=d.left;have H:=d.right;have FO:=it t.left;have X:(t.left:Int)<256:=uq;have eV:=it t.right;have C7:(t.right:Int)<256:=uq;obtain⟨n,i⟩:=ie (A l);have U:=qd i;rw[i]at j m |-;obtain⟨J,R,F,N,f⟩:=(q9 j).app (UInt8.ofNat 0) 0 uu uq n i (Z W.1+1) ur;obtain⟨DY,L,a1,a2,a3,a4,a5,af⟩:=(q9 f).tm;have Y:=d.str;have M:=qd (gF base (C (G (D J 0 O)) (n+1) R) (l++[UInt8.ofNat 0]) t.str F f.ob f.ge ut uq _ (λe w' h=>h));unfold tmV;have u:(t.op:Int)=0:=uq;rw[u]at L N |-;clear s ho h I H d i m hb u j;go_enter func102,ntmps102
 go_wp2_with(go_at_call 150;refine M.mono ?_;rintro e w2⟨T,rfl,z,E⟩;have K:=qd z;have S:=qd E;clear z E)
 exact q9 B _ _ ⟨_,rfl,by have:=q9 K;rwa[bw]at this,f.bel.trans S⟩
theorem vto(base:Nat)(v:Ap)(l:uk)(t:Tm)(W:Ao)(h:OB W base v l)(hb:base<=Z W.1)(m:A l<=800000)(i:SmallT t)(ho:t.op=1)(Q:Ending->Ao->Prop)(q:∀e w',yM base W (l++encT t) e w'->Q e w'):
  uo 102 #[tmV t,v] W Q:=by
 have s:encT t=UInt8.ofNat 1::xQ t.M 8:=by simp[encT,ho,jH]
 have B:=qd q;rw[s]at B;clear q;have j:=qd (WSt.start h hb t 187);obtain⟨a,c,rfl⟩:=h.form;have I:=i.left;have H:=i.right;have FO:=it t.left;have X:(t.left:Int)<256:=uq;have Y:=it t.right;have C7:(t.right:Int)<256:=uq;obtain⟨n,f⟩:=ie (A l);have U:=qd f;rw[f]at j m |-;obtain⟨J,R,F,N,d⟩:=(q9 j).app (UInt8.ofNat 1) 1 uu uq n f (Z W.1+1) ur;obtain⟨DY,L,a1,a2,a3,a4,a5,af⟩:=(q9 d).tm;have M:=qd (qgl base (C (G (D J 0 O)) (n+1) R) (l++[UInt8.ofNat 1]) t.M F d.ob d.ge ut _ (λe w' h=>h));unfold tmV;have u:(t.op:Int)=1:=uq;rw[u]at L N |-;clear s ho h I H i f m hb u j;go_enter func102,ntmps102
 go_wp2_with(go_at_call 149;refine M.mono ?_;rintro e w2⟨T,rfl,z,E⟩;have K:=qd z;have S:=qd E;clear z E)
 exact q9 B _ _ ⟨_,rfl,by have:=q9 K;rwa[bw]at this,d.bel.trans S⟩
theorem vtp(base:Nat)(v:Ap)(l:uk)(t:Tm)(W:Ao)(h:OB W base v l)(hb:base<=Z W.1)(m:A l<=800000)(d:SmallT t)(ho:t.op=2)(Q:Ending->Ao->Prop)(q:∀e w',yM base W (l++encT t) e w'->Q e w'):
  uo 102 #[tmV t,v] W Q:=by
 have s:encT t=UInt8.ofNat 2::qdd t.str:=by simp[encT,ho,jH]
 have B:=qd q;rw[s]at B;clear q;have j:=qd (WSt.start h hb t 187);obtain⟨a,c,rfl⟩:=h.form;have I:=d.left;have H:=d.right;have FO:=it t.left;have X:(t.left:Int)<256:=uq;have eV:=it t.right;have C7:(t.right:Int)<256:=uq;obtain⟨n,i⟩:=ie (A l);have U:=qd i;rw[i]at j m |-;obtain⟨J,R,F,N,f⟩:=(q9 j).app (UInt8.ofNat 2) 2 uu uq n i (Z W.1+1) ur;obtain⟨DY,L,a1,a2,a3,a4,a5,af⟩:=(q9 f).tm;have Y:=d.str;have M:=qd (gF base (C (G (D J 0 O)) (n+1) R) (l++[UInt8.ofNat 2]) t.str F f.ob f.ge ut uq _ (λe w' h=>h));unfold tmV;have u:(t.op:Int)=2:=uq;rw[u]at L N |-;clear s ho h I H d i m hb u j;go_enter func102,ntmps102
 go_wp2_with(go_at_call 150;refine M.mono ?_;rintro e w2⟨T,rfl,z,E⟩;have K:=qd z;have S:=qd E;clear z E)
 exact q9 B _ _ ⟨_,rfl,by have:=q9 K;rwa[bw]at this,f.bel.trans S⟩
theorem vgi(base:Nat)(v:Ap)(l:uk)(t:Tm)(W:Ao)(h:OB W base v l)(hb:base<=Z W.1)(u:A l<=800000)(f:SmallT t)(F:t.op=3\/t.op=4)(Q:Ending->Ao->Prop)(i:∀e w',yM base W (l++encT t) e w'->Q e w'):
  uo 102 #[tmV t,v] W Q:=by
 have B:encT t=[UInt8.ofNat t.op]:=by obtain ho|ho:=F<;>simp[encT,ho,jH]
 have m:=qd i;rw[B]at m;clear i;have j:=qd (WSt.start h hb t 187);obtain⟨a,c,rfl⟩:=h.form;have I:=f.left;have H:=f.right;obtain⟨n,q⟩:=ie (A l);rw[q]at j u |-;obtain⟨J,S,G,E,d⟩:=(q9 j).app (UInt8.ofNat t.op) (t.op:Int) (qh2 uq) uq n q (Z W.1+1) ur;obtain⟨T,D,R,O,N,M,L,K⟩:=(q9 d).tm;unfold tmV;obtain⟨z,s⟩:=ie ((t.op:Int):Int);rw[s]at D E |-;have C:z=3\/z=4:=uq;obtain rfl|rfl:=C
 all_goals
  go_enter func102,ntmps102
  go_wp2
  exact q9 m _ _ ⟨_,rfl,d.ob,d.bel⟩
theorem vtq(base:Nat)(v:Ap)(l:uk)(t:Tm)(W:Ao)(h:OB W base v l)(hb:base<=Z W.1)(u:A l<=800000)(f:SmallT t)(ho:t.op=5)(Q:Ending->Ao->Prop)(i:∀e w',yM base W (l++encT t) e w'->Q e w'):
  uo 102 #[tmV t,v] W Q:=by
 have B:encT t=[UInt8.ofNat 5,UInt8.ofNat t.left]:=by simp[encT,ho,jH]
 have s:=qd i;rw[B]at s;clear i;have q:=qd (WSt.start h hb t 187);obtain⟨a,c,rfl⟩:=h.form;have z:=f.left;have H:=f.right;have G:(t.left:Int)<256:=uq;obtain⟨n,d⟩:=ie (A l);rw[d]at q u |-;obtain⟨J,U,F,E,m⟩:=(q9 q).app (UInt8.ofNat 5) 5 uu uq n d (Z W.1+1) ur;obtain⟨X,D,T,S,R,O,N,K⟩:=(q9 m).tm;obtain⟨I,L,w2,M,j⟩:=(q9 m).app (UInt8.ofNat t.left) (t.left:Int) (qh2 z) ut (n+1) (by simp[d]) _ rfl;unfold tmV;have C:(t.op:Int)=5:=uq;rw[C]at D E |-;go_enter func102,ntmps102
 go_wp2
 exact q9 s _ _ ⟨_,rfl,by have:=(q9 j).ob;rwa[bw]at this,j.bel⟩
theorem gG(base:Nat)(v:Ap)(l:uk)(t:Tm)(W:Ao)(h:OB W base v l)(hb:base<=Z W.1)(E:A l<=800000)(f:SmallT t)(L:t.op=6\/t.op=7\/t.op=8\/t.op=10\/t.op=11\/t.op=16\/t.op=17\/t.op=18\/t.op=19)(Q:Ending->Ao->Prop)(i:∀e w',yM base W (l++encT t) e w'->Q e w'):
  uo 102 #[tmV t,v] W Q:=by
 have G:encT t=[UInt8.ofNat t.op,UInt8.ofNat t.right,UInt8.ofNat t.left]:=by obtain ho|ho|ho|ho|ho|ho|ho|ho|ho:=L<;>simp[encT,ho,jH]
 have u:=qd i;rw[G]at u;clear i;have s:=qd (WSt.start h hb t 187);obtain⟨a,c,rfl⟩:=h.form;have F:=f.left;have D:=f.right;have O:(t.left:Int)<256:=uq;obtain⟨n,d⟩:=ie (A l);rw[d]at s E |-;obtain⟨T,Q7,N,K,q⟩:=(q9 s).app (UInt8.ofNat t.op) (t.op:Int) (qh2 uq) uq n d (Z W.1+1) ur;obtain⟨DY,J,a1,a2,a3,a4,a5,af⟩:=(q9 q).tm;obtain⟨S,aX,w2,aD,m⟩:=(q9 q).app (UInt8.ofNat t.right) (t.right:Int) (qh2 D) ut (n+1) (by simp[d]) _ rfl;obtain⟨B,I,b1,b2,b3,Y,X,U⟩:=(q9 m).tm;obtain⟨R,QF,M,OU,j⟩:=(q9 m).app (UInt8.ofNat t.left) (t.left:Int) (qh2 F) ut (n+1+1) (by simp[d]) _ rfl;unfold tmV;obtain⟨z,C⟩:=ie ((t.op:Int):Int);rw[C]at J K I |-;have H:z=6\/z=7\/z=8\/z=10\/z=11\/z=16\/z=17\/z=18\/z=19:=uq;obtain rfl|rfl|rfl|rfl|rfl|rfl|rfl|rfl|rfl:=H
 all_goals
  go_enter func102,ntmps102
  go_wp2
  exact q9 u _ _ ⟨_,rfl,by have:=(q9 j).ob;rwa[bw,bw]at this,j.bel⟩
theorem vnb(base:Nat)(v:Ap)(l:uk)(t:Tm)(W:Ao)(h:OB W base v l)(hb:base<=Z W.1)(u:A l<=800000)(f:SmallT t)(ho:t.op=23)(Q:Ending->Ao->Prop)(i:∀e w',yM base W (l++encT t) e w'->Q e w'):
  uo 102 #[tmV t,v] W Q:=by
 have B:encT t=[UInt8.ofNat 23,UInt8.ofNat t.left]:=by simp[encT,ho,jH]
 have s:=qd i;rw[B]at s;clear i;have q:=qd (WSt.start h hb t 187);obtain⟨a,c,rfl⟩:=h.form;have z:=f.left;have H:=f.right;have G:(t.left:Int)<256:=uq;obtain⟨n,d⟩:=ie (A l);rw[d]at q u |-;obtain⟨J,U,F,E,m⟩:=(q9 q).app (UInt8.ofNat 23) 23 uu uq n d (Z W.1+1) ur;obtain⟨X,D,T,S,R,O,N,K⟩:=(q9 m).tm;obtain⟨I,L,w2,M,j⟩:=(q9 m).app (UInt8.ofNat t.left) (t.left:Int) (qh2 z) ut (n+1) (by simp[d]) _ rfl;unfold tmV;have C:(t.op:Int)=23:=uq;rw[C]at D E |-;go_enter func102,ntmps102
 go_wp2
 exact q9 s _ _ ⟨_,rfl,by have:=(q9 j).ob;rwa[bw]at this,j.bel⟩
end
theorem vcn(p:CP)(ho:p.op=3):qax (.leaf p):=by
 intro uc w v i f h;have hv:vj (.leaf p)=.leaf (qr 4):=by unfold vj;rw[ho];rfl
 rw[hv];have S:=qd (xU (qr 4) rfl (show Rng 0 from⟨uu,uu⟩) (bt _) (bt _) i f);replace S:Hid (uo 142 #[Ai #[I J 4,Ag O,Ag O,I J 0,Y ⟨#[]⟩,Y ⟨#[]⟩,Y ⟨#[]⟩]] w λe w'=>∃b,e=Ak (Ag (G (D b 0 O)))/\CoAt uc (Z w'.1) w' (Ag (G (D b 0 O))) (.leaf (qr 4))/\Xb w w'):=S;obtain⟨b,rfl,d⟩:=h;have c0:=d.c0;unfold at0;go_enter func140,ntmps140
 go_wp2_with(refine S.mono ?_;rintro e q⟨b1,rfl,j,m⟩)
 go_ret;exact⟨b1,rfl,j,m⟩
theorem vco(p:CP)(ho:p.op=4):qax (.leaf p):=by
 intro uc w v i f h;have hv:vj (.leaf p)=.leaf (qr 3):=by unfold vj;rw[ho];rfl
 rw[hv];have S:=qd (xU (qr 3) rfl (show Rng 0 from⟨uu,uu⟩) (bt _) (bt _) i f);replace S:Hid (uo 142 #[Ai #[I J 3,Ag O,Ag O,I J 0,Y ⟨#[]⟩,Y ⟨#[]⟩,Y ⟨#[]⟩]] w λe w'=>∃b,e=Ak (Ag (G (D b 0 O)))/\CoAt uc (Z w'.1) w' (Ag (G (D b 0 O))) (.leaf (qr 3))/\Xb w w'):=S;obtain⟨b,rfl,d⟩:=h;have c0:=d.c0;unfold at0;go_enter func140,ntmps140
 go_wp2_with(refine S.mono ?_;rintro e q⟨b1,rfl,j,m⟩)
 go_ret;exact⟨b1,rfl,j,m⟩
theorem qjj(c:Co)(p:CP)(d:A (qu c)<=1000000000)(hv:vj c=.un (qr 5) c)
  (u:∀uc E w v,CoAt uc E w v c->∃b l r,v=at0 b/\CellsC uc E w b p l r (qu c)) (s:¬p.op=3) (q:¬p.op=4) (m:¬p.op=6) (F:¬p.op=7) (Q:¬p.op=10) (N:¬p.op=11) (H:¬p.op=5):qax c:=by
 intro uc w v j i h;rw[hv];obtain⟨b,l,r,rfl,f⟩:=u _ _ _ _ h
 have S:Hid (uo 142 #[Ai #[I J 5,Ag (G (D b 0 O)),Ag O,I J 0,Y ⟨#[]⟩,Y ⟨#[]⟩,Y ⟨#[]⟩]] w λe w'=>∃b,e=Ak (Ag (G (D b 0 O)))/\CoAt uc (Z w'.1) w' (Ag (G (D b 0 O))) (.un (qr 5) c)/\Xb w w'):=
  qd (qaq (qr 5) rfl (show Rng 0 from⟨uu,uu⟩) (bt _) (bt _) j i h d)
 have c0:=f.c0;unfold at0;have M:(p.op==3)=uh:=aw.2 s;have L:(p.op==4)=uh:=aw.2 q;have K:(p.op==6)=uh:=aw.2 m;go_enter func140,ntmps140
 go_wp2_with(refine S.mono ?_;rintro e C⟨b1,rfl,z,B⟩)
 go_ret;exact⟨b1,rfl,z,B⟩
theorem vrx(p:CP)(x:Co)(ho:p.op=5)(i:¬opC x=0):qax (.un p x):=by
 intro uc w v D C h;have hv:vj (.un p x)=x:=by unfold vj;rw[ho,bs];rw[dn];exact⟨rfl,by simpa using i⟩
 rw[hv];obtain⟨b,vx,rfl,f,d⟩:=h;obtain⟨q,A,B,z,rfl,s,m⟩:=d.head;have c0:=f.c0;have c1:=f.c1;have j:=m.c0;rw[s]at j;have E:(opC x != 0)=ui:=by simpa using i
 unfold at0 at c1 d |-;have u:=qd d;go_enter func140,ntmps140
 go_wp2
 go_ret;exact⟨q,rfl,q9 u,uy⟩
theorem vjm(p:CP)(x:Co)(ho:p.op=5)(f:opC x=0)(m:A (qu (.un p x))<=1000000000):qax (.un p x):=by
 intro uc w v u s h;have hv:vj (.un p x)=.un (qr 5) (.un p x):=by unfold vj;rw[f,ak];rw[dn];rintro⟨_,h⟩;cases h
 rw[hv];have H:=h;obtain⟨b,vx,rfl,d,q⟩:=h
 have S:Hid (uo 142 #[Ai #[I J 5,Ag (G (D b 0 O)),Ag O,I J 0,Y ⟨#[]⟩,Y ⟨#[]⟩,Y ⟨#[]⟩]] w λe w'=>∃b,e=Ak (Ag (G (D b 0 O)))/\CoAt uc (Z w'.1) w' (Ag (G (D b 0 O))) (.un (qr 5) (.un p x))/\Xb w w'):=
  qd (qaq (qr 5) rfl (show Rng 0 from⟨uu,uu⟩) (bt _) (bt _) u s H m)
 obtain⟨M,K,L,F,rfl,z,j⟩:=q.head;have c0:=d.c0;have c1:=d.c1;have i:=j.c0;rw[z,f]at i;unfold at0 at c1 |-;go_enter func140,ntmps140
 go_wp2_with(refine S.mono ?_;rintro e E⟨b1,rfl,B,C⟩)
 go_ret;exact⟨b1,rfl,B,C⟩
theorem vjk(p:CP)(x y:Co)(ho:p.op=6\/p.op=7)(U:qax x)(T:qax y)(Q:A (qu (vj x))<=1000000000)(N:A (qu (vj y))<=1000000000):qax (.bin p x y):=by
 intro uc w v C B h;obtain⟨q,hq⟩:∃q:Int,p.op=6/\q=7\/p.op=7/\q=6:=by grind
 have hv:vj (.bin p x y)=qq q (vj x) (vj y):=by obtain⟨h,rfl⟩|⟨h,rfl⟩:=hq<;>rw[vj,h]<;>rfl
 rw[hv];obtain⟨b,vx,vy,rfl,j,K,H⟩:=h;obtain⟨E,rfl⟩:=K.ptr;obtain⟨f,rfl⟩:=H.ptr;have c0:=j.c0;have c1:=j.c1;have c2:=j.c2;have i:=j.within
 have NX:Hid (∀d,Xb w d->uo 140 #[Ag (G (D E 0 O))] d λe w'=>∃b,e=Ak (Ag (G (D b 0 O)))/\CoAt uc (Z w'.1) w' (Ag (G (D b 0 O))) (vj x)/\Xb d w'):=
  qd (λd hb=>U uc d _ (bu C hb.size) (B.h hb ux) (K.h hb))
 have NY:Hid (∀d,Xb w d->uo 140 #[Ag (G (D f 0 O))] d λe w'=>∃b,e=Ak (Ag (G (D b 0 O)))/\CoAt uc (Z w'.1) w' (Ag (G (D b 0 O))) (vj y)/\Xb d w'):=
  qd (λd hb=>T uc d _ (bu C hb.size) (B.h hb ux) (H.h hb))
 have PR:Hid (∀d z u,Xb w d->CoAt uc (Z d.1) d z (vj x)->CoAt uc (Z d.1) d u (vj y)->uo 138 #[I J q,z,u] d λe w'=>∃b,e=Ak (Ag (G (D b 0 O)))/\CoAt uc (Z w'.1) w' (Ag (G (D b 0 O))) (qq q (vj x) (vj y))/\Xb d w'):=
  qd (λd z u hb Y X=>jr q (bu C hb.size) (B.h hb ux) Y X Q N)
 have L:Hid (Xb w w.drew):=qd uy.drew;unfold at0 at c1 c2 |-;obtain⟨ho,rfl⟩|⟨ho,rfl⟩:=hq
 all_goals go_enter func140,ntmps140
 all_goals go_wp2
 all_goals go_region_held3 (λW=>Xc W b 1 (Ag (G (D E 0 O)))/\Xc W b 2 (Ag (G (D f 0 O)))) (go_keep) (first|(go_at_call_of 140 (Ag (G { block:=E,off:=0 }));refine(NX _ L).mono ?_;rintro e d⟨b1,rfl,k1,A0⟩;have s:=qd (qg L A0);have d1:=(s.cell (p:=D b 1 O) i).trans c1;have d2:=(s.cell (p:=D b 2 O) i).trans c2;have K1:=qd k1)|(go_at_call_of 140 (Ag (G { block:=f,off:=0 }));refine(NY _ s).mono ?_;rintro e w2⟨b2,rfl,S,M⟩;have m:=qd (qg s M);have d3:=(m.cell (p:=D b 1 O) i).trans c1;have d4:=(m.cell (p:=D b 2 O) i).trans c2;have QI:=qd (K1.h M);have K2:=qd S)|(go_at_call 138;refine(PR _ _ _ m QI K2).mono ?_;rintro e w3⟨b3,rfl,R,D5⟩;have F:=qd (qg m D5);have d5:=(F.cell (p:=D b 1 O) i).trans c1;have d6:=(F.cell (p:=D b 2 O) i).trans c2;have K3:=qd R))
 all_goals(go_wp2;go_ret;exact⟨b3,rfl,q9 K3,q9 F⟩)
theorem vcl(p:CP)(x y:Co)(ho:p.op=10)(C:A (qu x)<=1000000000)(B:A (qu y)<=1000000000):qax (.bin p x y):=by
 intro uc w v H F h;have hv:vj (.bin p x y)=qq 11 y x:=by rw[vj,ho];rfl
 rw[hv];obtain⟨b,vx,vy,rfl,i,q,m⟩:=h;obtain⟨s,rfl⟩:=q.ptr;obtain⟨d,rfl⟩:=m.ptr;have c0:=i.c0;have c1:=i.c1;have c2:=i.c2;have u:=i.within
 have L:Hid (∀f,Xb w f->uo 138 #[I J 11,Ag (G (D d 0 O)),Ag (G (D s 0 O))] f λe w'=>∃b,e=Ak (Ag (G (D b 0 O)))/\CoAt uc (Z w'.1) w' (Ag (G (D b 0 O))) (qq 11 y x)/\Xb f w'):=
  qd (λf hb=>jr 11 (bu H hb.size) (F.h hb ux) (m.h hb) (q.h hb) B C)
 have z:Hid (Xb w w.drew):=qd uy.drew;unfold at0 at c1 c2 |-;go_enter func140,ntmps140
 go_wp2
 go_region_held3 (λW=>Xc W b 1 (Ag (G (D s 0 O)))/\Xc W b 2 (Ag (G (D d 0 O)))) (go_keep) (first|(go_at_call 138;refine(L _ z).mono ?_;rintro e Q⟨K,rfl,E,N⟩;have j:=qd (qg z N);have S:=(j.cell (p:=D b 1 O) u).trans c1;have R:=(j.cell (p:=D b 2 O) u).trans c2;have M:=qd E))
 all_goals(go_wp2;go_ret;exact⟨K,rfl,q9 M,q9 j⟩)
theorem vcm(p:CP)(x y:Co)(ho:p.op=11)(C:A (qu x)<=1000000000)(B:A (qu y)<=1000000000):qax (.bin p x y):=by
 intro uc w v H F h;have hv:vj (.bin p x y)=qq 10 y x:=by rw[vj,ho];rfl
 rw[hv];obtain⟨b,vx,vy,rfl,i,q,m⟩:=h;obtain⟨s,rfl⟩:=q.ptr;obtain⟨d,rfl⟩:=m.ptr;have c0:=i.c0;have c1:=i.c1;have c2:=i.c2;have u:=i.within
 have L:Hid (∀f,Xb w f->uo 138 #[I J 10,Ag (G (D d 0 O)),Ag (G (D s 0 O))] f λe w'=>∃b,e=Ak (Ag (G (D b 0 O)))/\CoAt uc (Z w'.1) w' (Ag (G (D b 0 O))) (qq 10 y x)/\Xb f w'):=
  qd (λf hb=>jr 10 (bu H hb.size) (F.h hb ux) (m.h hb) (q.h hb) B C)
 have z:Hid (Xb w w.drew):=qd uy.drew;unfold at0 at c1 c2 |-;go_enter func140,ntmps140
 go_wp2
 go_region_held3 (λW=>Xc W b 1 (Ag (G (D s 0 O)))/\Xc W b 2 (Ag (G (D d 0 O)))) (go_keep) (first|(go_at_call 138;refine(L _ z).mono ?_;rintro e Q⟨K,rfl,E,N⟩;have j:=qd (qg z N);have S:=(j.cell (p:=D b 1 O) u).trans c1;have R:=(j.cell (p:=D b 2 O) u).trans c2;have M:=qd E))
 all_goals(go_wp2;go_ret;exact⟨K,rfl,q9 M,q9 j⟩)
theorem qnb:∀c,WfC c->A (qu c)+7 * uC c<=1000000000->qax c:=by
 intro c
 induction c with
 | leaf p=>
  intro d q
  by_cases j:p.op=3
  .exact vcn p j
  by_cases i:p.op=4
  .exact vco p i
  have D:p.op=0\/p.op=1\/p.op=2:=by
   grind[jp,WfC]
  refine qjj _ p uq ?_ (λB E w v h=>by obtain⟨b,rfl,f⟩:=h;exact⟨b,_,_,rfl,f⟩) j i uq uq uq uq uq;unfold vj;rw[ak (by simpa using j),ak (by simpa using i)]
 | un p x ih=>
  intro d q
  have s:p.op=5\/p.op=22\/p.op=23:=by
   grind[unB,WfC]
  by_cases m:p.op=5
  .grind[vjm,vrx]
  refine qjj _ p uq ?_ (λB E w v h=>by obtain⟨b,vx,rfl,f,_⟩:=h;exact⟨b,_,_,rfl,f⟩) uq uq uq uq uq uq m;unfold vj;rw[ak];rw[dn];rintro⟨h,_⟩;exact m (eq_of_beq h)
 | bin p x y ihx ihy=>
  intro d q;have C:=jV d.1 x y;have z:=xh x d.2.1;have u:=xh y d.2.2;have s:uC (.bin p x y)=if(p.op==6||p.op==7)=ui then uC x+uC y else 1:=rfl
  by_cases h6:p.op=6
  .grind[vjk,WfC]
  by_cases h7:p.op=7
  .grind[vjk,WfC]
  by_cases S7:p.op=10
  .grind[vcl]
  by_cases V8:p.op=11
  .grind[vcm]
  have hb:=d.1;unfold qvv jp unB at hb;simp only[dn,Bool.not_eq_true',ir,aw]at hb;obtain⟨⟨⟨⟨⟨_,_⟩,_⟩,j⟩,i⟩,⟨m,_⟩,_⟩:=hb;refine qjj _ p uq ?_ (λB E w v h=>by obtain⟨b,vx,vy,rfl,f,_⟩:=h;exact⟨b,_,_,rfl,f⟩) j i h6 h7 S7 V8 m;unfold vj;rw[ak (by simpa using h6),ak (by simpa using h7),ak (by simpa using S7),ak (by simpa using V8)]
def pH(uc:Nat)(w:Ao)(c:Co)(e:Ending)(w':Ao):Prop:=∃b,e=Ak (Ag (G (D b 0 O)))/\CoAt uc (Z w'.1) w' (Ag (G (D b 0 O))) c/\Below (Z w.1) w w'
theorem qei(n:Int)(d:Rng n)(h:uc<=Z w.1)(f:LibOk w):uo 139 #[I J n] w (pH uc w (gO n)):=by
 have S:Hid (uo 142 #[Ai #[I J 1,Ag O,Ag O,I J n,Y ⟨#[]⟩,Y ⟨#[]⟩,Y ⟨#[]⟩]] w (pH uc w (gO n))):=qd (xU ⟨1,n,[],[]⟩ rfl d (bt _) (bt _) h f);go_enter func139,ntmps139
 go_wp2_with(refine S.mono ?_;rintro e m⟨b1,rfl,i,j⟩)
 go_ret;exact⟨b1,rfl,i,j⟩
def Lm(c:Co):Prop:=A (qu c)<=200000000/\uC c<=1000/\WfC c
theorem Gd.lm(h:Gd t)(d:ndA t<=200):Lm (qj t):=by
 have:ndA t * ndA t<=200 * 200:=oy d d
 grind[Gd,Lm]
theorem vhj(z:Nat)(p:Pay)(u:Ap)(m:uc<=Z w.1)(j:LibOk w)(B:NodeAt z w b p u)(ho:p.op=14)(i:CoAt uc (Z w.1) w vx x)(s:Lm x):
  uo 98 #[Ag (G (D b 0 O)),vx,Ag O,Ag O] w (pH uc w (qq 16 (gO 0) x)):=by
 obtain⟨E,rfl⟩:=i.ptr;have c0:=B.c0;have H:Hid (uo 139 #[I J 0] w (pH uc w (gO 0))):=qd (qei 0 ⟨uu,uu⟩ m j)
 have F:Hid (∀d f,Xb w d->CoAt uc (Z d.1) d f (gO 0)->uo 138 #[I J 16,f,Ag (G (D E 0 O))] d (pH uc d (qq 16 (gO 0) x))):=
  qd (λd f hb C=>jr 16 (bu m hb.size) (j.h hb ux) C (i.h hb) (bu qdv uu) (bu s.1 uu))
 have R:(p.op==14)=ui:=by rw[ho];rfl
 go_enter func98,ntmps98
 go_wp2_with(first|(go_at_call 139;refine H.mono ?_;rintro e d⟨b1,rfl,k1,Q⟩;have q:=qd Q;have L:=qd k1)|(refine(F _ _ q L).mono ?_;rintro e w2⟨b2,rfl,A,N⟩;have M:=qd (qg q N);have K:=qd A))
 go_ret;exact⟨b2,rfl,q9 K,q9 M⟩
theorem vhk(z:Nat)(p:Pay)(u:Ap)(m:uc<=Z w.1)(j:LibOk w)(B:NodeAt z w b p u)(ho:p.op=15)(i:CoAt uc (Z w.1) w vx x)(s:Lm x):
  uo 98 #[Ag (G (D b 0 O)),vx,Ag O,Ag O] w (pH uc w (qq 17 (gO 0) x)):=by
 obtain⟨F,rfl⟩:=i.ptr;have c0:=B.c0;have K:Hid (uo 139 #[I J 0] w (pH uc w (gO 0))):=qd (qei 0 ⟨uu,uu⟩ m j)
 have H:Hid (∀d f,Xb w d->CoAt uc (Z d.1) d f (gO 0)->uo 138 #[I J 17,f,Ag (G (D F 0 O))] d (pH uc d (qq 17 (gO 0) x))):=
  qd (λd f hb C=>jr 17 (bu m hb.size) (j.h hb ux) C (i.h hb) (bu qdv uu) (bu s.1 uu))
 have E:(p.op==15)=ui:=by rw[ho];rfl
 go_enter func98,ntmps98
 go_wp2_with(first|(go_at_call 139;refine K.mono ?_;rintro e d⟨b1,rfl,k1,R⟩;have q:=qd R;have M:=qd k1)|(refine(H _ _ q M).mono ?_;rintro e w2⟨b2,rfl,A,Q⟩;have N:=qd (qg q Q);have L:=qd A))
 go_ret;exact⟨b2,rfl,q9 L,q9 N⟩
theorem vhh(s:Nat)(p:Pay)(q:Ap)(B:uc<=Z w.1)(A:LibOk w)(z:NodeAt s w b p q)(ho:p.op=12)(i:CoAt uc (Z w.1) w vx x)(f:CoAt uc (Z w.1) w vy y)(m:Lm x)(j:Lm y):
  uo 98 #[Ag (G (D b 0 O)),vx,vy,Ag O] w (pH uc w (qq 10 y x)):=by
 obtain⟨C,rfl⟩:=i.ptr;obtain⟨d,rfl⟩:=f.ptr;have c0:=z.c0
 have E:Hid (uo 138 #[I J 10,Ag (G (D d 0 O)),Ag (G (D C 0 O))] w (pH uc w (qq 10 y x))):=
  qd (jr 10 B A f i (bu j.1 uu) (bu m.1 uu))
 go_enter func98,ntmps98
 go_wp2_with(refine E.mono ?_;rintro e w2⟨b2,rfl,u,F⟩)
 go_ret;exact⟨b2,rfl,u,F⟩
theorem vhi(s:Nat)(p:Pay)(q:Ap)(B:uc<=Z w.1)(A:LibOk w)(z:NodeAt s w b p q)(ho:p.op=13)(i:CoAt uc (Z w.1) w vx x)(f:CoAt uc (Z w.1) w vy y)(m:Lm x)(j:Lm y):
  uo 98 #[Ag (G (D b 0 O)),vx,vy,Ag O] w (pH uc w (qq 11 y x)):=by
 obtain⟨C,rfl⟩:=i.ptr;obtain⟨d,rfl⟩:=f.ptr;have c0:=z.c0
 have E:Hid (uo 138 #[I J 11,Ag (G (D d 0 O)),Ag (G (D C 0 O))] w (pH uc w (qq 11 y x))):=
  qd (jr 11 B A f i (bu j.1 uu) (bu m.1 uu))
 go_enter func98,ntmps98
 go_wp2_with(refine E.mono ?_;rintro e w2⟨b2,rfl,u,F⟩)
 go_ret;exact⟨b2,rfl,u,F⟩
theorem vqa(E:Nat)(p:Pay)(C:Ap)(z:uc<=Z w.1)(u:LibOk w)(H:NodeAt E w b p C)(ho:p.op=9)(s:CoAt uc (Z w.1) w vx x)(q:CoAt uc (Z w.1) w vy y)(j:Lm x)(i:Lm y):
  uo 98 #[Ag (G (D b 0 O)),vx,vy,Ag O] w (pH uc w (vj (qq 8 x y))):=by
 obtain⟨L,rfl⟩:=s.ptr;obtain⟨m,rfl⟩:=q.ptr;have c0:=H.c0;have Y:=j.1;have X:=i.1
 have M:Hid (uo 138 #[I J 8,Ag (G (D L 0 O)),Ag (G (D m 0 O))] w (pH uc w (qq 8 x y))):=
  qd (jr 8 z u s q (bu j.1 uu) (bu i.1 uu))
 have N:Hid (∀d f,Xb w d->CoAt uc (Z d.1) d f (qq 8 x y)->uo 140 #[f] d (pH uc d (vj (qq 8 x y)))):=
  qd (λd f hb K=>qnb _ (vX rfl j.2.2 i.2.2) (by rw[qN 8 rfl rfl,ze];have e8:A (jJ 8)=1:=rfl;show _+7 * 1<=_;omega) uc d f (bu z hb.size) (u.h hb ux) K)
 go_enter func98,ntmps98
 go_wp2_with(first|(go_at_call 138;refine M.mono ?_;rintro e d⟨b1,rfl,k1,U⟩;have B:=qd U;have R:=qd k1)|(refine(N _ _ B R).mono ?_;rintro e w2⟨b2,rfl,F,T⟩;have S:=qd (qg B T);have Q:=qd F))
 go_ret;exact⟨b2,rfl,q9 Q,q9 S⟩
theorem vq9(j:Nat)(p:Pay)(i:Ap)(u:uc<=Z w.1)(s:LibOk w)(q:NodeAt j w b p i)(ho:p.op=5)(f:CoAt uc (Z w.1) w vx x)(d:Lm x):
  uo 98 #[Ag (G (D b 0 O)),vx,Ag O,Ag O] w (pH uc w (vj x)):=by
 obtain⟨z,rfl⟩:=f.ptr;have c0:=q.c0;have E:=d.1;have C:=d.2.1;have A:Hid (uo 140 #[Ag (G (D z 0 O))] w (pH uc w (vj x))):=qd (qnb x d.2.2 uq uc w _ u s f);go_enter func98,ntmps98
 go_wp2_with(refine A.mono ?_;rintro e w2⟨b2,rfl,m,B⟩)
 go_ret;exact⟨b2,rfl,m,B⟩
theorem vhl(R:Nat)(p:Pay)(Q:Ap)(q:uc<=Z w.1)(m:LibOk w)(U:NodeAt R w b p Q)(ho:p.op=20){z:Co}{u:Ap}(j:CoAt uc (Z w.1) w vx x)(C:CoAt uc (Z w.1) w vy y)(B:CoAt uc (Z w.1) w u z)(N:Lm x)(M:Lm y)(L:Lm z):
  uo 98 #[Ag (G (D b 0 O)),vx,vy,u] w (pH uc w (qq 6 (qq 11 y x) (qq 11 x z))):=by
 obtain⟨E,rfl⟩:=j.ptr;obtain⟨s,rfl⟩:=C.ptr;obtain⟨bz,rfl⟩:=B.ptr;have c0:=U.c0;have z1:=N.1;have z2:=M.1;have z3:=L.1
 have P1:Hid (uo 138 #[I J 11,Ag (G (D s 0 O)),Ag (G (D E 0 O))] w (pH uc w (qq 11 y x))):=
  qd (jr 11 q m C j uq uq)
 have P2:Hid (∀d,Xb w d->uo 138 #[I J 11,Ag (G (D E 0 O)),Ag (G (D bz 0 O))] d (pH uc d (qq 11 x z))):=
  qd (λd hb=>jr 11 (bu q hb.size) (m.h hb ux) (j.h hb) (B.h hb) uq uq)
 have LE:A (jJ 11)=2:=rfl
 have P3:Hid (∀d i f,Xb w d->CoAt uc (Z d.1) d i (qq 11 y x)->CoAt uc (Z d.1) d f (qq 11 x z)->uo 138 #[I J 6,i,f] d (pH uc d (qq 6 (qq 11 y x) (qq 11 x z)))):=
  qd (λd i f hb Y X=>jr 6 (bu q hb.size) (m.h hb ux) Y X (by rw[qN 11 rfl rfl];omega) (by rw[qN 11 rfl rfl];omega))
 go_enter func98,ntmps98
 go_wp2_with fail
 refine P1.mono ?_;rintro e d⟨b1,rfl,k1,A0⟩;have H:=qd A0;have K1:=qd k1
 go_wp2_with fail
 refine(P2 _ H).mono ?_;rintro e w2⟨b2,rfl,T,K⟩;have F:=qd (qg H K);have QI:=qd (K1.h K);have K2:=qd T
 go_wp2_with fail
 refine(P3 _ _ _ F QI K2).mono ?_;rintro e w3⟨b3,rfl,S,D5⟩;have F6:=qd (qg F D5);have K3:=qd S
 go_wp2
 go_ret;exact⟨b3,rfl,q9 K3,q9 F6⟩
theorem va9(s:Nat)(p:Pay)(q:Ap)(C:uc<=Z w.1)(B:LibOk w)(A:NodeAt s w b p q)(L:¬p.op=14)(F:¬p.op=15)(Q:¬p.op=12)(z:¬p.op=13)(T:¬p.op=9)(U:¬p.op=5)(E:¬p.op=20)(S:¬p.op=21)(i:CoAt uc (Z w.1) w vx x)(f:CoAt uc (Z w.1) w vy y)(m:Lm x)(j:Lm y):
  uo 98 #[Ag (G (D b 0 O)),vx,vy,Ag O] w (pH uc w (qq p.op x y)):=by
 obtain⟨M,rfl⟩:=i.ptr;obtain⟨d,rfl⟩:=f.ptr;have c0:=A.c0
 have N:Hid (uo 138 #[I J p.op,Ag (G (D M 0 O)),Ag (G (D d 0 O))] w (pH uc w (qq p.op x y))):=
  qd (jr p.op C B i f (bu m.1 uu) (bu j.1 uu))
 have Y:(p.op==14)=uh:=aw.2 L;have H:(p.op==15)=uh:=aw.2 F;have X:(p.op==12)=uh:=aw.2 Q;have K:(p.op==13)=uh:=aw.2 z;go_enter func98,ntmps98
 go_wp2_with(refine N.mono ?_;rintro e w2⟨b2,rfl,u,R⟩)
 go_ret;exact⟨b2,rfl,u,R⟩
theorem qh8(q:Nat)(p:Pay)(m:Ap)(d:NodeAt q w b p m)(N:¬p.op=14)(M:¬p.op=15)(X:¬p.op=12)(H:¬p.op=13)(K:¬p.op=9)(L:¬p.op=5)(z:¬p.op=20)(F:¬p.op=21)(c:Co)(i:Option Addr)
  (u:∀w1,Xb w w1->uo 142 #[Ai #[I J p.op,Ag i,Ag O,I J p.M,Y (BS p.str),Y (BS p.esc),Y ⟨#[]⟩]] w1 (pH uc w1 c)) :
  uo 98 #[Ag (G (D b 0 O)),Ag i,Ag O,Ag O] w (pH uc w c):=by
 have c0:=d.c0;have c3:=d.c3;have c4:=d.c4;have c5:=d.c5;have h:=d.within;have S:=qd u;have j:Hid (Xb w w.drew):=qd uy.drew;go_enter func98,ntmps98
 go_wp2
 go_region_held3 (λW=>Xc W b 0 (I J p.op)/\Xc W b 3 (I J p.M)/\Xc W b 4 (Y (BS p.str))/\Xc W b 5 (Y (BS p.esc))) (go_keep) (first|(go_at_call 142;refine(S _ j).mono ?_;rintro e E⟨A,rfl,s,C⟩;have f:=qd (qg j C);have U:=(f.cell (p:=D b 0 O) h).trans c0;have T:=(f.cell (p:=D b 3 O) h).trans c3;have R:=(f.cell (p:=D b 4 O) h).trans c4;have Q:=(f.cell (p:=D b 5 O) h).trans c5;have B:=qd s))
 all_goals(go_wp2;go_ret;exact⟨A,rfl,q9 B,q9 f⟩)
def qc2:Prop:=∀(lo uc:Nat) (w:Ao) (x:Co) (vx tv:Ap) (ts:List (List UInt8)),uc<=Z w.1->LibOk w->CoAt uc (Z w.1) w vx x->TextsAt lo w tv ts->ts≠[]->A ts<=200->(∀t∈ts,A t<=200)->A (qu x)<=402 ->
 Calls prog 141 #[vx,tv] w (pH uc w (vO x ts))
def qgq:Ast->Prop
 | .leaf _=>False
 | .un p x=>p.op=21\/qgq x
 | .bin _ x y=>qgq x\/qgq y
 | .tri _ x y z=>qgq x\/qgq y\/qgq z
theorem vhm(F:qc2)(h:Nat)(p:Pay)(q:Ap)(E:uc<=Z w.1)(B:LibOk w)(j:NodeAt h w b p q)(ho:p.op=21)(i:CoAt uc (Z w.1) w vx x)(f:p.i≠[])(u:A p.i<=200)(z:∀t∈p.i,A t<=200)(m:A (qu x)<=402):
  uo 98 #[Ag (G (D b 0 O)),vx,Ag O,Ag O] w (pH uc w (vO x p.i)):=by
 obtain⟨H,rfl⟩:=i.ptr;have c0:=j.c0;obtain⟨tv,c6,d⟩:=j.c6;have I:Hid (uo 141 #[Ag (G (D H 0 O)),tv] w (pH uc w (vO x p.i))):=qd (F h uc w x _ tv _ E B i d f u z m)
 obtain⟨M,K,L,rfl⟩:∃a n c,tv=C a n c:=by
  obtain⟨_,rfl⟩|⟨g,cap,rfl,_⟩:=d;exact⟨_,_,_,rfl⟩;exact⟨_,_,_,rfl⟩
 go_enter func98,ntmps98
 go_wp2_with(refine I.mono ?_;rintro e w2⟨b2,rfl,s,J⟩)
 go_ret;exact⟨b2,rfl,s,J⟩
structure Ok(t:Ast):Prop where
 gd:GdA t
 nd:ndA t<=200
 sh:ShA t
 M:qi9 t
 bnd:qi6 t
 bq:BqA t
theorem qcj{s:uj}(h:qW s=.ok t):Ok t:=by
 grind[ky,Ok]
theorem Ok.side{x:Ast}(h:Ok t)(d:x∈qw t):Ok x:=by
 obtain⟨g,n,s,u,b,q⟩:=h
 cases t with
 | leaf p=>simp[qw]at d
 | un p y=>
  simp[qw]at d;subst d;have:ndA (.un p x)=1+A p.i+ndA x:=rfl;exact⟨g.2,uq,s.2.2.2,u.2,b.2,q.2⟩
 | bin p y z=>
  have:ndA (.bin p y z)=1+ndA y+ndA z:=rfl;simp[qw]at d;obtain rfl|rfl:=d;exact⟨g.2.1,uq,s.2.1,u.2.1,b.2.1,q.2.1⟩;exact⟨g.2.2,uq,s.2.2,u.2.2,b.2.2,q.2.2⟩
 | tri p y z v=>
  have:ndA (.tri p y z v)=1+ndA y+ndA z+ndA v:=rfl;simp[qw]at d;obtain rfl|rfl|rfl:=d;exact⟨g.2.1,uq,s.2.1,u.2.1,b.2.1,q.2.1⟩;exact⟨g.2.2.1,uq,s.2.2.1,u.2.2.1,b.2.2.1,q.2.2.1⟩;exact⟨g.2.2.2,uq,s.2.2.2,u.2.2.2,b.2.2.2,q.2.2.2⟩
theorem Ok.lm(h:Ok t):Lm (qj t):=h.gd.gd.lm h.nd
def SideIs(uc:Nat)(w:Ao)(t:Ast)(j:Nat)(v:Ap):Prop:=match (qw t)[j]? with
 | some x=>CoAt uc (Z w.1) w v (qj x)
 | none=>v=Ag O
theorem va8(t:Ast)(M:qgq t->qc2)(d:Ok t)(i:Nat)(f:Ap)(u:uc<=Z w.1)(s:LibOk w)(m:NodeAt i w b (qZ t) f){J I H:Ap}(j:SideIs uc w t 0 J)(C:SideIs uc w t 1 I)(F:SideIs uc w t 2 H):
  uo 98 #[Ag (G (D b 0 O)),J,I,H] w (pH uc w (qj t)):=by
 cases t with
 | leaf p=>
  subst j C F;have R:0<=p.op/\p.op<=4:=d.sh;exact qh8 i p f m uq uq uq uq uq uq uq uq (.leaf (yt p)) O
   (λK hb=>xU (yt p) (by unfold jp yt;simp only[fh,ew];omega) d.M (bu d.bnd.1 uu) (bu d.bq.1 uu) (bu u hb.size) (s.h hb ux))
 | un p x=>
  subst C F;have L:=d.side (x:=x) (by simp[qw]);have B:=L.lm;have S:1+A p.i+ndA x<=200:=d.nd;obtain e|e|e|e|e|e:=d.sh.1
  .rw[show qj (.un p x)=vj (qj x) by rw[qj,e];rfl]
   exact vq9 i p f u s m e j B
  .rw[show qj (.un p x)=qq 16 (gO 0) (qj x) by rw[qj,e];rfl]
   exact vhj i p f u s m e j B
  .rw[show qj (.un p x)=qq 17 (gO 0) (qj x) by rw[qj,e];rfl]
   exact vhk i p f u s m e j B
  .rw[show qj (.un p x)=vO (qj x) p.i by rw[qj,e];rfl]
   obtain⟨q,rfl,N⟩:=xP d.sh.2.2.2 (d.sh.2.2.1 uq);exact vhm (M (Am e)) i p f u s m e j (d.sh.2.1 e) uq d.bq.1.2 (qb3 (yt q) d.bnd.2.1 d.M.2 (by unfold jp;simp[yt,N]))
  all_goals
   obtain⟨Q,rfl⟩:=j.ptr;rw[show qj (.un p x)=.un (yt p) (qj x) by rw[qj,e];rfl];exact qh8 i p f m uq uq uq uq uq uq uq uq (.un (yt p) (qj x)) (G (D Q 0 O))
    (λK hb=>qaq (yt p) (by unfold unB;simp[yt,e]) d.M.1 (bu d.bnd.1.1 uu) (bu d.bq.1.1 uu) (bu u hb.size) (s.h hb ux) (j.h hb) (bu B.1 uu))
 | bin p x y=>
  subst F;have B:=(d.side (x:=x) (by simp[qw])).lm;have E:=(d.side (x:=y) (by simp[qw])).lm
  by_cases I2:p.op=12
  .rw[show qj (.bin p x y)=qq 10 (qj y) (qj x) by rw[qj,I2];rfl]
   exact vhh i p f u s m I2 j C B E
  by_cases i6:p.op=13
  .rw[show qj (.bin p x y)=qq 11 (qj y) (qj x) by rw[qj,i6];rfl]
   exact vhi i p f u s m i6 j C B E
  by_cases h9:p.op=9
  .rw[show qj (.bin p x y)=vj (qq 8 (qj x) (qj y)) by rw[qj,h9];rfl]
   exact vqa i p f u s m h9 j C B E
  rw[show qj (.bin p x y)=qq p.op (qj x) (qj y) by grind[qj]];have:=d.sh.1;exact va9 i p f u s m uq uq I2 i6 h9 uq uq uq j C B E
 | tri p x y z=>
  exact vhl i p f u s m d.sh.1 j C F (d.side (x:=x) (by simp[qw])).lm (d.side (x:=y) (by simp[qw])).lm (d.side (x:=z) (by simp[qw])).lm
section
attribute [local go_sem ↓] vp
def qU(ms:List Mg):List Ap:=ms.flatMap λm=>[I J m.pri,I J m.M]
theorem zi(ms:List Mg):A (qU ms)=A ms * 2:=by
 induction ms<;>grind[qU]
theorem gi{i:Nat}{m:Mg}(h:ms[i]?=G m):(qU ms)[i * 2]?=G (I J m.pri)/\(qU ms)[i * 2+1]?=G (I J m.M):=by
 induction ms generalizing i with
 | nil=>simp at h
 | cons t ts ih=>
  rw[qU,dy,<-qU]
  cases i with
  | zero =>grind
  | succ i =>grind
theorem vqx:(prog.info? 142).map (λi=>(i.zero,i.size,i.bytes))=G (G (Ai #[I J 0,I J 0]),2,16):=uw
structure HqAt(w:Ao)(hb ho:Nat)(v:Ap)(base:Nat)(ms:List Mg):Prop where
 c:w.cell? ⟨hb,ho,O⟩=G v
 fz:w.frozen? ⟨hb,ho,O⟩=uh
 lt:hb<w.1.size
 own:ue w base 142 2 v (A ms) (qU ms)
 ne:ug v≠G hb
theorem HqAt.form(h:HqAt w hb ho v base ms):∃a c,v=C a (A ms) c:=by
 obtain⟨rfl,d⟩|⟨g,cap,cur,rfl,_⟩:=h.own.2<;>grind
theorem HqAt.hp(h:HqAt w hb ho (C (G (D g 0 O)) n cap) base ms):HpAt w hb ho g cap ms/\base<=g/\n=A ms:=by
 have s:=h.own;obtain⟨hv,_⟩|⟨H,cap',cur,hv,F,d,z,u,E,_⟩:=h.own.2;simp at hv;simp at hv;obtain⟨rfl,rfl,rfl⟩:=hv;have B:∀j,(⟨g,0,O⟩:Addr).add j=⟨g,j,O⟩:=λj=>by unfold Addr.add;split<;>simp_all
 refine⟨⟨h.c,h.fz,λe=>h.ne (by rw[e];rfl),h.lt,(ch.1 d).1,λi m f=>?_,λj=>by simp[World.frozen?,d],⟨u,cur,d,E⟩,z⟩,F,rfl⟩;have q:=World.ownsRow.cells s (g:=g) rfl (i * 2) _ (gi f).1;have p:=World.ownsRow.cells s (g:=g) rfl (i * 2+1) _ (gi f).2;rw[B]at q p;exact⟨q,p⟩
theorem HpAt.hq(h:HpAt w hb ho g cap ms)(q:base<=g):HqAt w hb ho (C (G (D g 0 O)) (A ms) cap) base ms:=by
 obtain⟨d,cur,f,i⟩:=h.blk;have u:=h.room;refine⟨h.c,h.fz,h.lt,⟨zi ms,An ⟨g,cap,cur,rfl,q,f,u,d,i, ?_⟩⟩,λe=>h.ne (by simpa [Value.ownBlock]using e)⟩;apply lh;intro j;have F:∀j,w.cell? (D g j O)=cur[j]?:=λj=>cell_of_row w g j cur _ _ f
 rw[li]
 by_cases hj:j<A ms * 2
 rw[bs hj];obtain⟨m,d⟩:∃m,ms[j / 2]?=G m:=⟨_,ag uq⟩;obtain⟨E,B⟩:=h.pri _ m d;obtain⟨k1,z⟩:=gi d;obtain s|s:=Nat.mod_two_eq_zero_or_one j
 grind
 grind
 grind[zi]
structure PqKept(hb ho:Nat)(v v':Ap)(w w':Ao):Prop where
 os:w'.os=w.os
 tape:w'.tape=w.tape
 output:w'.output=w.output
 size:w.1.size<=w'.1.size
 block:∀k,k<w.1.size->k≠hb->ug v≠G k->w'.1[k]?=w.1[k]?
 hdr:w'.1[hb]?=(B w ⟨hb,ho,O⟩ v').1[hb]?
 row:∀k,ug v'=G k->ug v=G k\/w.1.size<=k
theorem PqKept.next(h:PqKept hb ho v v' w W)(f:Kept g W w')(i:ug v=G g\/Z w.1<=g)(d:g≠hb)(j:hb<Z w.1):PqKept hb ho v v' w w':=by
 grind[PqKept,Kept]
theorem vio(hb ho base:Nat)(v:Ap)(ms:List Mg)(w:Ao)(h:HqAt w hb ho v base ms):uo 76 #[Ag (G (D hb ho O))] w λe w'=>e=Ak (I J (A ms))/\w'=w:=by
 have c:=h.c;obtain⟨a,d,rfl⟩:=h.form;go_enter func76,ntmps76
 go_wp2
 go_ret;exact⟨rfl,rfl⟩
theorem HqAt.app(h:HqAt w hb ho v base ms)(K0:base<=Z w.1)(Y:A ms<=1000)(m:Mg)(o:Obj):
  ∃g cap d,(xb #[126,126] 126 #[v,C (G ⟨Z w.1+1,0,O⟩) 1 1]).run prog ((w.alloc o).alloc (Al #[I J m.pri,I J m.M] 142)).drew=.ok (C (G (D g 0 O)) (A ms+1) cap) d /\
   Xc d hb ho v/\d.frozen? (D hb ho O)=uh/\hb<Z d.1 /\
   Hid (HpAt (B d (D hb ho O) (C (G (D g 0 O)) (A ms+1) cap)) hb ho g cap (ms++[m]))/\Hid (base<=g) /\
   Hid (PqKept hb ho v (C (G (D g 0 O)) (A ms+1) cap) w (B d (D hb ho O) (C (G (D g 0 O)) (A ms+1) cap))):=by
 obtain⟨E,K,R,T,S⟩:=info_parts vqx;have U:=h.lt;obtain⟨g,cap,d,H,B7,i,f,X⟩:=run_append_lies (P:=prog) ((w.alloc o).alloc (Al #[I J m.pri,I J m.M] 142)).drew 126 126 base 142 E _ 2 16 underlying126 K R T S rfl uq v (A ms) (qU ms) (World.ownsRow.alloc (World.ownsRow.alloc h.own o) _)
  ⟨Z w.1+1,0,O⟩ 1 1 [I J m.pri,I J m.M] rfl (World.news_of_block (cs:=#[I J m.pri,I J m.M]) (t:=142) (fr:=(0,0)) (by have:=heap_alloc_new (w.alloc o) (Al #[I J m.pri,I J m.M] 142);rwa[show(w.alloc o).1.size=Z w.1+1 by simp]at this)) (by simp[Value.oneCell']) uq (by unfold maxLen;omega) uq ut _ rfl
 have F:=i.size;simp at F f
 have L:∀k,k<Z w.1->ug v≠G k->d.1[k]?=w.1[k]?:=λk j q=>
  (i.block k ut (λe=>q e.symm)).trans ((ik (w.alloc o) _ k ut).trans (ik w o k j))
 have s:=L hb U h.ne;have z:Xc d hb ho v:=(bg (w:=w) (w':=d) (a:=D hb ho O) s).trans h.c;have u:d.frozen? (D hb ho O)=uh:=(cn (w:=w) (w':=d) (a:=D hb ho O) s).trans h.fz
 have M:g≠hb:=by
  grind[HqAt]
 have Q:ue (B d (D hb ho O) (C (G (D g 0 O)) (A ms+1) cap)) base 142 2 (C (G (D g 0 O)) (A ms+1) cap) (A (ms++[m])) (qU (ms++[m])):=by
  grind[qU,ownsRow_setCell_other,Value.ownBlock]
 have hq:HqAt (B d (D hb ho O) (C (G (D g 0 O)) (A ms+1) cap)) hb ho (C (G (D g 0 O)) (A ms+1) cap) base (ms++[m]):=
  ⟨by simp[go_sem,z],by simp[go_sem,u],ut,Q,λe=>M (by simpa [Value.ownBlock]using e)⟩
 obtain⟨hp,N,_⟩:=hq.hp;refine⟨g,cap,d,H,z,u,uq,qd hp,qd N,qd ⟨i.os,i.tape,i.output,ut,λk j h1 h2=>?_, ?_,λk j=>?_⟩⟩
 grind[Below.heap_setCell]
 simp only[B,iy];rw[s];have e:g=k:=by simpa [Value.ownBlock]using j
 subst e;obtain f|f:=f;exact Am f;exact An uq
def qdg(ms:List Mg)(m:Mg):List Mg:=qns (ms++[m]) (A ms)
theorem qd6(n:Nat):∀(ms:List Mg) (k:Nat),A (qbc n ms k)=A ms:=by
 induction n with
 | zero=>intro ms k;rfl
 | succ n ih=>
  intro ms k
  cases k with
  | zero=>rfl
  | succ k =>grind[qbc]
theorem qnj(ms:List Mg)(m:Mg):A (qdg ms m)=A ms+1:=by
 rw[qdg,qns,qd6];simp
theorem vkd(hb ho base:Nat)(v:Ap)(ms:List Mg)(m:Mg)(z:A ms<=90)(w:Ao)(h:HqAt w hb ho v base ms)(N:base<=Z w.1):
  uo 77 #[Ag (G (D hb ho O)),mgV m] w λe w'=>∃v',e=Ak (Aj #[])/\HqAt w' hb ho v' base (qdg ms m)/\PqKept hb ho v v' w w':=by
 obtain⟨g,cap,T,K,H,U,Y,f,Q,i⟩:=h.app N uq m (Al #[I J m.pri,I J m.M] 142);have c:=h.c;have lt:=h.lt;have q:Hid _:=qd (vkw hb ho g cap (ms++[m]) (A ms) ur ut _ f);have F:=qd h.lt;have d:Hid (ug v=G g\/Z w.1<=g):=qd (i.row g rfl);have L:Hid (g≠hb):=qd f.ne;obtain⟨a,X,rfl⟩:=h.form;obtain⟨n,j⟩:=ie (A ms);rw[j]at K q c f i d H |-;have s:=qd j;rw[j]at z;unfold mgV;go_enter func77,ntmps77
 go_wp2
 go_region
 all_goals go_wp2_with(refine be q ?_;rintro S⟨E,u⟩;have R:=qd E;have M:=qd u)
 all_goals
  refine ub (results_none rfl _ _ _) rfl ⟨C (G (D g 0 O)) (n+1) cap,rfl, ?_,i.next M d L F⟩;have hq:=(q9 R).hq Q;have B:A (qns (ms++[m]) n)=n+1:=by rw[qns,qd6];simp[q9 s]
  rw[B]at hq;have e:qdg ms m=qns (ms++[m]) n:=by rw[qdg,q9 s]
  rwa[e]
end
def qdf(ms:List Mg)(b f:Nat):Nat:=match ms[b]?,ms[f]? with
 | some x,G y=>if bef x y then b else f
 | _,_=>f
def jN(ms:List Mg):Nat->Nat->Nat->Nat
 | 0,_,f=>f
 | n+1,b,f=>if b<A ms then jN ms n (b+1) (qdf ms b f) else f
def yP(ms:List Mg)(k:Nat):Nat:=jN ms 2 (2 * k+1) k
theorem vk2(ms:List Mg)(b f:Nat):qdf ms b f=b\/qdf ms b f=f:=by
 grind[qdf]
theorem vaw(ms:List Mg)(n:Nat):∀(b f:Nat),jN ms n b f=f\/(b<=jN ms n b f/\jN ms n b f<b+n/\jN ms n b f<A ms):=by
 induction n<;>grind[jN,vk2]
theorem vax(ms:List Mg)(k:Nat):yP ms k=k\/(k<yP ms k/\yP ms k<A ms):=by
 grind[vaw,yP]
theorem qhc(hb ho g cap:Nat)(ms:List Mg)(k:Nat)(T:k<=200)(K:A ms<=100)(w:Ao)(h:HpAt w hb ho g cap ms):
  lz 160 #[Ag (G (D hb ho O)),I J k] w (I J (yP ms k:Nat)):=by
 obtain⟨R,F⟩:=ie (yP ms k);rw[F];have M:Hid (R=jN ms 2 (2 * k+1) k):=qd F.symm;have N:=qd h;go_enter func160,ntmps160
 go_wp2
 go_loopw [5,6] (λf i wr=>∃(b n f':Nat),i=I J b/\f=I J f'/\b+n=2 * k+3/\f'<b/\Hid (R=jN ms n b f')/\Hid (Xb w wr)) (λ_ i _=>2 * k+3 - (intOf i).toNat)
 exact⟨2 * k+1,2,k,ur,rfl,uq,uq,M,qd uy⟩;obtain⟨b,n,f,rfl,rfl,S,Q,s,q⟩:=hrel;have H:=qd (N.h q);have c:=(q9 H).c;obtain⟨m,E⟩:=ie (A ms);rw[E]at c K;have j:=qd E
 cases n with
 | zero=>
  have hd:decide ((b:Int)<=2 * (k:Int)+2)=uh:=da uq
  go_wp2
  go_ret;exact⟨by rw[q9 s];rfl,q9 q⟩
 | succ n=>
  by_cases hbm:b<m
  .obtain⟨x,hx⟩:∃x,ms[b]?=G x:=⟨_,ag (md (q9 j))⟩
   obtain⟨y,z⟩:∃y,ms[f]?=G y:=⟨_,ag (md (q9 j))⟩;have L:decide ((b:Int)<(m:Int))=ui:=de uq;have u:=qd (qh6 hb ho g cap ms b f x y hx z wr H)
   cases hbef:bef x y with
   | true=>
    rw[hbef]at u;have d:Hid (jN ms (n+1) b f=jN ms n (b+1) b):=qd (by rw[jN,bs (md (q9 j))];congr 1;unfold qdf;rw[hx,z];simp[hbef])
    go_wp2_with(refine be u λw2 C=>?_;have B:=qd (qg q C))
    exact⟨⟨b+1,n,b,ur,rfl,uq,uq,qd (by rw[q9 s,q9 d]),B⟩,by simp[intOf];omega⟩
   | false=>
    rw[hbef]at u;have d:Hid (jN ms (n+1) b f=jN ms n (b+1) f):=qd (by rw[jN,bs (md (q9 j))];congr 1;unfold qdf;rw[hx,z];simp[hbef])
    go_wp2_with(refine be u λw2 C=>?_;have B:=qd (qg q C))
    exact⟨⟨b+1,n,f,ur,rfl,uq,uq,qd (by rw[q9 s,q9 d]),B⟩,by simp[intOf];omega⟩
  have L:decide ((b:Int)<(m:Int))=uh:=da uq;have d:Hid (jN ms (n+1) b f=f):=qd (by rw[jN,ak (md (q9 j))])
  go_wp2
  go_ret;exact⟨by rw[q9 s,q9 d];rfl,q9 q⟩
def qbk:Nat->List Mg->Nat->List Mg
 | 0,ms,_=>ms
 | n+1,ms,k=>if yP ms k=k then ms else match ms[k]?,ms[yP ms k]? with
  | some x,G y=>qbk n ((ms.set k y).set (yP ms k) x) (yP ms k)
  | _,_=>ms
def qke(ms:List Mg)(k:Nat):List Mg:=qbk (A ms+1) ms k
theorem vmo(hb ho g cap:Nat)(ms:List Mg)(K:A ms<=100)(w:Ao)(h:HpAt w hb ho g cap ms):
  uo 114 #[Ag (G (D hb ho O)),I J 0] w λe w'=>e=Ak (Aj #[])/\HpAt w' hb ho g cap (qke ms 0)/\Kept g w w':=by
 obtain⟨R,L⟩:=ie (qke ms 0);rw[L];have HR:Hid (R=qbk (A ms+1) ms 0):=qd L.symm;have H0:=qd h;have F0:=qd (qhc hb ho g cap ms 0 uq K w h);have LS:Hid (A ms<=100):=qd K;go_enter func114,ntmps114
 go_wp2_with(refine be F0 λq A0=>?_;have U:=qd A0)
 go_loopw [1,4] (λi Y wr=>∃(k n:Nat) (ms':List Mg),i=I J k/\Y=I J (yP ms' k:Nat)/\k<=100/\Hid (R=qbk n ms' k)/\Hid (k=0\/k<A ms')/\Hid (A ms'<k+n)/\Hid (A ms'<=100)/\Hid (HpAt wr hb ho g cap ms')/\Hid (Kept g w wr)) (λi _ _=>200 - (intOf i).toNat)
 exact⟨0,A ms+1,ms,rfl,rfl,uq,HR,qd (Am rfl),qd uq,LS,qd (H0.h U),qd (Kept.x U)⟩;obtain⟨k,n,ms',rfl,rfl,hk,E,oR,j,C,Q,N⟩:=hrel;have Z:=vax ms' k;obtain⟨f,u⟩:=ie (yP ms' k);rw[u]at Z |-
 by_cases hfk:f=k
 .subst hfk
  have s:Hid (qbk n ms' f=ms'):=qd (by cases n with
   | zero=>rfl
   | succ n=>rw[qbk,bs u])
  go_wp2
  exact ub (results_none rfl _ _ _) rfl ⟨rfl,by rw[q9 E,q9 s];exact q9 Q,q9 N⟩
 have X:k<f/\f<A ms':=uq;obtain⟨d,rfl⟩:∃d,n=d+1:=⟨n - 1,md (q9 j)⟩;obtain⟨x,H⟩:∃x,ms'[k]?=G x:=⟨_,ag uq⟩;obtain⟨y,F⟩:∃y,ms'[f]?=G y:=⟨_,ag X.2⟩;have s:Hid (qbk (d+1) ms' k=qbk d ((ms'.set k y).set f x) f):=qd (by rw[qbk,u,ak hfk,H,F]);have m:Hid (A ((ms'.set k y).set f x)=A ms'):=qd ur;have M:=qd (qva hb ho g cap ms' k f x y H F uq wr Q);have F9:f<=100:=md (q9 C)
 have z:=qd X;obtain⟨B,YH⟩:=ie ((ms'.set k y).set f x);rw[YH]at M s m;have FI:Hid (∀q,HpAt q hb ho g cap B->_):=qd λq h1=>qhc hb ho g cap B f uq (by have:=q9 m;have:=q9 C;omega) q h1
 go_wp2_with(first|(go_at_call 161;refine be M ?_;rintro w3⟨YX,F2⟩;have S:=qd YX;have K3:=qd (N.trans F2))|(refine be (FI _ S) λw4 T=>?_;have H4:=qd (S.h T);have K4:=qd (K3.trans (Kept.x T))))
 exact⟨⟨f,d,B,rfl,rfl,F9,qd (by rw[q9 E,q9 s]),qd (An (by have:=q9 z;rw[q9 m];omega)),qd (by have:=q9 j;have:=q9 z;rw[q9 m];omega),qd (by rw[q9 m];exact q9 C),H4,K4⟩,by have:=q9 z;simp[intOf];omega⟩
def qcy(ms:List Mg)(y:Mg)(k:Nat):List Mg:=(ms.set 0 y).take k
def qgp(ms:List Mg):List Mg:=match ms.getLast? with
 | some y=>qke (qcy ms y (A ms - 1)) 0
 | none=>[]
theorem HpAt.cut(h:HpAt w hb ho g cap ms)(H:A ms=k+1){x:Mg}(F:ms[0]?=G x)(y:Mg):
  HpAt (B (B (B w (D g 0 O) (I J y.pri)) (D g 1 O) (I J y.M)) (D hb ho O) (C (G (D g 0 O)) k cap)) hb ho g cap (qcy ms y k):=by
 obtain⟨c,fz,f,lt,glt,cells,gfz,blk,room⟩:=h;obtain⟨u,s⟩:=cells 0 x F;have q:A (qcy ms y k)=k:=by unfold qcy;rw[cw,fm];omega
 refine⟨by rw[q];simp[go_sem,c],by simp[go_sem,fz],f,by simpa using lt,by simpa using glt,λi m d=>?_,λj=>by simp[go_sem,gfz], ?_,by rw[q];omega⟩
 .have hi:i<k:=by grind
  unfold qcy at d;rw[li,bs hi]at d
  by_cases h0:i=0
  .subst h0
   rw[List.getElem?_set_self uq]at d;simp at d;subst d;constructor<;>simp[go_sem,u,s]
  rw[List.getElem?_set_ne (λe=>h0 e.symm)]at d;obtain⟨E,z⟩:=cells i m d;constructor<;>simp[go_sem,E,z]
 exact((blk.set _ _).set _ _).same (bi _ ⟨hb,ho,O⟩ _ g (by show g≠hb;exact f))
theorem qp8(h:w.cell? (D b o O)=G v):(B w (D b o O) v).1[b]?=w.1[b]?:=by
 simp only[World.cell?]at h;simp only[B,iy,if_true]
 cases hb:w.1[b]? with
 | none=>rfl
 | some obj=>
  rw[hb]at h
  cases obj with
  | cells cs ty fr=>
   simp only[ny]
   congr 2
   apply Array.ext_getElem?;intro i;simp only[Option.isSome_none,dk,if_false];rw[rp]
   split
   grind
   rfl
  | _=>simp at h
theorem HqAt.h(h:HqAt w hb ho v base ms)(d:Xb w w'):HqAt w' hb ho v base ms:=by
 obtain⟨i,f⟩:=qi d;exact⟨(i hb ho h.lt).trans h.c,(f hb ho h.lt).trans h.fz,au h.lt d.size,qp h.own d ux,h.ne⟩
def qe9(hb ho base:Nat)(v:Ap)(ms:List Mg)(w:Ao)(e:Ending)(w':Ao):Prop:=∃v' m,e=Ak (Aj #[mgV m,Ah (decide (0<A ms))])/\m=(ms.head?).getD ⟨0,0⟩/\HqAt w' hb ho v' base (qgp ms)/\PqKept hb ho v v' w w'
theorem vk7(hb ho base:Nat)(v:Ap)(w:Ao)(h:HqAt w hb ho v base []):uo 75 #[Ag (G (D hb ho O))] w (qe9 hb ho base v [] w):=by
 have i:=qd h;have c:=h.c;have lt:=h.lt;obtain⟨a,f,rfl⟩:=h.form;simp only[im]at c |-;go_enter func75,ntmps75
 go_wp2
 refine um ⟨C a 0 f,⟨0,0⟩,rfl,rfl,i.h (uy.alloc ux _), ?_⟩;refine⟨rfl,rfl,rfl,ur,λk d _ _=>ik w _ k d, ?_,λk h=>Am h⟩;rw[qp8 c];exact ik w _ hb lt
theorem qd8(n:Nat):∀(ms:List Mg) (k:Nat),A (qbk n ms k)=A ms:=by
 induction n<;>grind[qbk]
def vd8(w:Ao)(hb ho g cap k:Nat)(x y:Mg):Ao:=
 (((B (B (B w (D g 0 O) (I J y.pri)) (D g 1 O) (I J y.M)) (D hb ho O) (C (G (D g 0 O)) k cap)).alloc (Al #[I J 0,I J 0] 142)).alloc (Al #[I J x.pri,I J x.M] 142)).drew.drew
theorem vd9{x y:Mg}(u:g≠hb)(M:hb<Z w.1)(d:Kept g (vd8 w hb ho g cap k x y) w')(m j:Ap):
  PqKept hb ho (C (G (D g 0 O)) n cap) (C (G (D g 0 O)) k cap) w (B (B w' ⟨Z w.1,0,O⟩ m) ⟨Z w.1,1,O⟩ j):=by
 have K:Z (vd8 w hb ho g cap k x y).1=Z w.1+2:=by simp[vd8]
 have L:=d.size
 have H:∀i,i<Z w.1->(B (B w' ⟨Z w.1,0,O⟩ m) ⟨Z w.1,1,O⟩ j).1[i]?=w'.1[i]?:=λi z=>
  (bi _ ⟨Z w.1,1,O⟩ j i (by grind)).trans (bi _ ⟨Z w.1,0,O⟩ m i (by grind))
 have F:∀i,i<Z w.1->i≠g->(vd8 w hb ho g cap k x y).1[i]?=(B w (D hb ho O) (C (G (D g 0 O)) k cap)).1[i]?:=by
  intro i z f;show((B (B (B w (D g 0 O) (I J y.pri)) (D g 1 O) (I J y.M)) (D hb ho O) (C (G (D g 0 O)) k cap)).alloc (Al #[I J 0,I J 0] 142)).alloc (Al #[I J x.pri,I J x.M] 142) |>.heap[i]?=_;rw[ik _ _ i ut,ik _ _ i ut];have q:¬g=i:=λe=>f e.symm
  simp only[B,iy,q,if_false]
 refine⟨d.os,d.tape,d.output,ut,λi s E A=>?_, ?_,λi h=>Am h⟩
 .have f:i≠g:=λe=>A (by rw[e];rfl)
  rw[H i s,d.block i uq f,F i s f];exact bi w ⟨hb,ho,O⟩ _ i (by show i≠hb;exact E)
 grind[Kept]
theorem vk8(hb ho base g cap k:Nat)(ms:List Mg)(i:A ms=k+1)(hn:A ms<=90)(x y:Mg)(s:ms[0]?=G x)(L:ms[k]?=G y)(w:Ao)(h:HqAt w hb ho (C (G (D g 0 O)) (k+1) cap) base ms)
  (Q:Ending->Ao->Prop) (M:∀e w',qe9 hb ho base (C (G (D g 0 O)) (k+1) cap) ms w e w'->Q e w') :
  uo 75 #[Ag (G (D hb ho O))] w Q:=by
 obtain⟨hp,S,E⟩:=h.hp;clear E;have hcut:=hp.cut i s y
 have R:qgp ms=qke (qcy ms y k) 0:=by
  have hl:ms.getLast?=G y:=by rwa[List.getLast?_eq_getElem?,i]
  unfold qgp;rw[hl,i];rfl
 have K:decide (0<A ms)=ui:=de uq;have U:x=(ms.head?).getD ⟨0,0⟩:=by rw[rm,s];rfl
 have HE:Hid (∀d q m,HpAt d hb ho g cap (qke (qcy ms y k) 0)->Kept g (vd8 w hb ho g cap k x y) d->Q (Ak (Aj #[mgV x,Ah ui])) (B (B d ⟨Z w.1,0,O⟩ q) ⟨Z w.1,1,O⟩ m)):=qd (by
  intro d q m F f;apply M;have W9:A (qke (qcy ms y k) 0)=k:=by rw[qke,qd8];unfold qcy;rw[cw,fm];omega
  have hq:=F.hq S;rw[W9]at hq;have H:=hp.lt;have N:=hp.glt;have z:Below (Z w.1) d (B (B d ⟨Z w.1,0,O⟩ q) ⟨Z w.1,1,O⟩ m):=(uy.setCell (by exact ux) _).setCell (by exact ux) _;refine⟨_,x,by rw[K],U, ?_,vd9 hp.ne H f q m⟩;rw[R];refine⟨(z.cell (p:=D hb ho O) H).trans hq.c,(z.frozen (p:=D hb ho O) H).trans hq.fz,au hq.lt z.size, ?_,hq.ne⟩;refine qm hq.own λg' hg'=>?_
  have e:g=g':=by simpa [Value.ownBlock]using hg'
  subst e
  exact z.block g N)
 have T:Hid _:=qd (vmo hb ho g cap (qcy ms y k) (by unfold qcy;rw[cw,fm];omega) (vd8 w hb ho g cap k x y) (hcut.h ((uy.alloc ux _).alloc ur _).drew.drew))
 have CELLS:Hid (∀d,Kept g (vd8 w hb ho g cap k x y) d->Xc d (Z w.1+1) 0 (I J x.pri)/\Xc d (Z w.1+1) 1 (I J x.M)/\Xc d (Z w.1) 0 (I J 0)/\Xc d (Z w.1) 1 (I J 0)/\(Xf d (Z w.1))/\Z w.1+1<Z d.1):=qd (by
  intro d f;have hz:Z (vd8 w hb ho g cap k x y).1=Z w.1+2:=by simp[vd8]
  have N:=hp.glt;obtain⟨u,hf⟩:=jY f
  refine⟨(u _ 0 uq uq).trans ?_,(u _ 1 uq uq).trans ?_,(u _ 0 uq uq).trans ?_,(u _ 1 uq uq).trans ?_,λj=>(hf _ j uq uq).trans ?_,md f.size⟩<;>simp[vd8,go_sem])
 obtain⟨c,fz,ne,lt,glt,cells,gfz,blk,room⟩:=hp;obtain⟨Y,X⟩:=cells 0 x s;obtain⟨y0,y1⟩:=cells k y L;simp only[Nat.zero_mul,ed]at Y X;rw[i]at c;have k2:(k:Int)<=(cap:Int):=uq;have kb:k<=90:=uq;clear cells blk h hcut R K U s L M S room i;unfold vd8 at T;go_enter func75,ntmps75
 go_wp2
 go_region
 all_goals go_wp2
 all_goals go_region
 all_goals go_wp2_with(go_at_call 114;refine be T ?_;rintro d⟨F,f⟩;obtain⟨q0,q1,q2,q3,qf,ql⟩:=q9 CELLS d f;have H6:=qd F;have K6:=qd f)
 all_goals exact bo (by simp[go_sem,q2,q3]<;>rfl) rfl (HE _ _ _ H6 K6)
def qm6(x y:Int):Int:=if x<y then -1 else if y<x then 1 else 0
theorem qf2(x:Int)(w:Ao):uo 158 #[I J x] w λe w'=>e=Ak (Ah uh)/\w'=w:=by
 go_enter func158,ntmps158
 go_wp2
 go_ret;exact⟨ur,rfl⟩
theorem qqn(x y:Int)(w:Ao):uo 111 #[I J x,I J y] w λe w'=>e=Ak (I J (qm6 x y))/\w'=w:=by
 obtain h|h|h:=Int.lt_trichotomy x y
 .have d:qm6 x y=-1:=by unfold qm6;rw[bs h]
  have i:decide (x<y)=ui:=de h;rw[d];go_enter func111,ntmps111
  go_wp2_with(refine be (qf2 _ _) ?_;rintro f rfl)
  go_ret;exact⟨rfl,rfl⟩
 .subst h
  have d:qm6 x x=0:=by unfold qm6;simp
  have i:decide (x<x)=uh:=da uq;have j:decide (x > x)=uh:=da uq;rw[d];go_enter func111,ntmps111
  go_wp2_with(refine be (qf2 _ _) ?_;rintro f rfl)
  go_ret;exact⟨rfl,rfl⟩
 have d:qm6 x y=1:=by unfold qm6;rw[ak uq,bs h]
 have i:decide (x<y)=uh:=da uq;have j:decide (x > y)=ui:=de h;rw[d];go_enter func111,ntmps111
 go_wp2_with(refine be (qf2 _ _) ?_;rintro f rfl)
 go_ret;exact⟨rfl,rfl⟩
theorem qi1(x y:Int)(p q:Ap)(w:Ao):lz 110 #[Ai #[I J x,p,q],I J y] w (I J (qm6 x y)):=by
 go_enter func110,ntmps110
 go_wp2_with(refine be (qqn _ _ _) ?_;rintro d rfl)
 go_ret;exact⟨rfl,uy.alloc ux _⟩
structure Sb where
 id:Int
 core:Option Addr
 row:Option Addr
 len:Nat
 cap:Nat
def qX(s:Sb):List Ap:=[I J s.id,Ag s.core,C s.row s.len s.cap]
def SubsAt(w:Ao)(lo:Nat)(v:Ap)(l:List Sb):Prop:=
 ∃a c,v=C a (A l) c/\∀(i:Nat) (s:Sb),l[i]?=G s->∃g,a=G (D g 0 O)/\g<lo/\w.cell? ⟨g,i * 3,O⟩=G (I J s.id)/\w.cell? ⟨g,i * 3+1,O⟩=G (Ag s.core)/\w.cell? ⟨g,i * 3+2,O⟩=G (C s.row s.len s.cap)
def vt(l:List Sb)(id:Int):Nat:=l.countP λs=>decide (s.id<id)
def xZ(l:List Sb):Prop:=l.Pairwise λa b=>a.id<b.id
theorem kV{l:List Sb}(h:xZ l)(id:Int):∀(i:Nat) (s:Sb),l[i]?=G s->(s.id<id↔i<vt l id):=by
 induction l<;>grind[List.pairwise_cons,vt,List.countP_eq_zero,xZ]
theorem vu6{l:List Sb}(h:xZ l)(id:Int):(l.any λs=>s.id==id)=match l[vt l id]? with
  | some s=>s.id==id
  | none=>uh:=by
 have q:=kV h id;have H:=ei.1 h
 cases hp:l[vt l id]? with
 | none=>
  rw[List.any_eq_false];intro s f;obtain⟨i,d⟩:=db f;have N:=(aj.1 d).1;have j:A l<=vt l id:=List.getElem?_eq_none_iff.1 hp;have:=(q i s d).2 uq;simp;omega
 | some t=>
  obtain⟨F,K⟩:=aj.1 hp;show _=(t.id==id);have u:¬t.id<id:=λz=>md ((q _ t hp).1 z)
  by_cases he:t.id=id
  rw[nh.2 ⟨t,bh hp,by simp[he]⟩];simp[he];rw[List.any_eq_false.2,Eq.comm];simp[he];intro s f;obtain⟨i,d⟩:=db f;obtain⟨B,E⟩:=aj.1 d;obtain M|m|L:=Nat.lt_trichotomy i (vt l id);have:=(q i s d).2 M;simp;omega;subst m;rw[hp]at d;cases d;simp[he];have:=H (vt l id) i F B L;rw[K,E]at this;simp;omega
theorem qqd(l:List Sb)(id:Int)(v:Ap)(w:Ao)(h:SubsAt w (Z w.1) v l)(BO:xZ l)(hn:A l<=8):
  lz 109 #[v,I J id,.func (.func 110) #[] #[]] w (Aj #[I J (vt l id),Ah (l.any λs=>s.id==id)]):=by
 have HS:=qd h;obtain⟨a,c,rfl,hx⟩:=h;have Y:=qd hx;have HC:=qd (kV BO id);have U:vt l id<=A l:=List.countP_le_length;obtain⟨n,F8⟩:=ie (A l);have S:=qd F8;obtain⟨P,hP⟩:=ie (vt l id);obtain⟨F,hF⟩:=ie ((l.any λs=>s.id==id));have L:Hid _:=qd (vu6 BO id);rw[hF]at L |-;rw[hP]at HC U L |-;rw[F8]at hn U |-;go_enter func109,ntmps109
 go_wp2
 go_loopw [9,10] (λi j wr=>∃(f d:Nat),i=I J f/\j=I J d/\f<=P/\P<=d/\d<=n/\Hid (Xb w wr)) (λi j _=>(intOf j).toNat - (intOf i).toNat)
 exact⟨0,n,rfl,rfl,bt _,U,ux,qd uy⟩;obtain⟨f,d,rfl,rfl,h1,h2,h3,u⟩:=hrel
 by_cases A1:f<d
 .obtain⟨m,hm⟩:=ie ((f+d) / 2)
  have oA:f<=m:=uq;have wG:m<d:=uq;have hmi:((f:Int)+(d:Int)) / 2=(m:Int):=uq;obtain⟨s,B⟩:∃s,l[m]?=G s:=⟨_,ag (md (q9 S))⟩;obtain⟨g,rfl,glt,Q,O,N⟩:=q9 Y m s B;obtain⟨q,mA⟩:=qi u;rw[<-q g (m * 3) glt]at Q;rw[<-q g (m * 3+1) glt]at O;rw[<-q g (m * 3+2) glt]at N;have E:=q9 HC m s B;have m0:=it m;have m1:=je m n;have M:=qd (λw=>qi1 s.id id (Ag s.core) (C s.row s.len s.cap) w)
  by_cases hsi:s.id<id
  .have hd:decide (qm6 s.id id<0)=ui:=de (by unfold qm6;rw[bs hsi];decide)
   have D:=E.1 hsi;generalize qm6 s.id id=z at *
   go_wp2_with(refine be (M _) λw2 K=>?_;have H:=qd (qg u K))
   exact⟨⟨m+1,d,rfl,rfl,uq,h2,h3,H⟩,by simp[intOf];omega⟩
  have hd:decide (qm6 s.id id<0)=uh:=da (by unfold qm6;rw[ak hsi];split<;>decide)
  have D:P<=m:=by
   obtain R|R:=Nat.lt_or_ge m P;exact absurd (E.2 R) hsi;exact R
  generalize qm6 s.id id=z at *
  go_wp2_with(refine be (M _) λw2 K=>?_;have H:=qd (qg u K))
  exact⟨⟨f,m,rfl,rfl,h1,D,uq,H⟩,by simp[intOf];omega⟩
 obtain rfl:f=P:=uq;obtain rfl:d=f:=uq
 by_cases hPn:d<n
 .obtain⟨s,B⟩:∃s,l[d]?=G s:=⟨_,ag (md (q9 S))⟩
  obtain⟨g,rfl,glt,Q,O,N⟩:=q9 Y d s B;obtain⟨q,mA⟩:=qi u;rw[<-q g (d * 3) glt]at Q;rw[<-q g (d * 3+1) glt]at O;rw[<-q g (d * 3+2) glt]at N;have p0:=it d;have p1:=je d n;have M:=qd (λw=>qi1 s.id id (Ag s.core) (C s.row s.len s.cap) w);have T:Hid (F=(s.id==id)):=qd (by rw[q9 L,B])
  have X:(qm6 s.id id==0)=(s.id==id):=by
   unfold qm6;obtain h|h|h:=Int.lt_trichotomy s.id id;rw[bs h];simp;omega;simp[h];rw[ak uq,bs h];simp;omega
  generalize qm6 s.id id=z at *
  go_wp2_with(refine be (M _) λw2 K=>?_;have H:=qd (qg u K))
  go_ret2
  exact⟨by rw[q9 T];first|rfl|(rw[<-X];rfl)|simp[X],q9 H⟩
 have T:Hid (F=uh):=qd (by rw[q9 L,List.getElem?_eq_none (md (q9 S))])
 go_wp2
 go_ret2
 exact⟨by rw[q9 T];rfl,q9 u⟩
section
variable {P:Program}
def jQ(cur:Array Ap)(o:Nat)(cs:List Ap):Array Ap:=(cur.toList.take o++cs++cur.toList.drop (o+A cs)).toArray
theorem yw{cur:Array Ap}{cs:List Ap}(h:o+A cs<=cur.size):(jQ cur o cs).size=cur.size:=by
 simp[jQ];omega
theorem zM(cur:Array Ap)(o:Nat)(cs:List Ap):(jQ cur o cs).toList=cur.toList.take o++cs++cur.toList.drop (o+A cs):=by
 simp[jQ]
theorem yp(w:Ao)(m p ty elem:TypeId)(K g o dLen dCap n:Nat)(a:Addr)(sLen sCap:Nat)(cur:Array Ap)(t:TypeId)(cs:List Ap)
  (q:P.underlying m=G (.slice elem)) (h:(P.info? elem).map (·.size)=G K)
  (B:w.1[g]?=G (Al cur t (0,0))) (s:n=Nat.min sLen dLen) (u:A cs=n * K)
  (d:∀j v,cs[j]?=G v->w.cell? (a.add j)=G v) (f:o+A cs<=cur.size) (C:∀v∈cs,v.oneCell'=ui) :
  (Builtin.copy_ #[m,p] ty #[.slice (G (D g o O)) dLen dCap,.slice (G a) sLen sCap]).run P w=.ok (goInt n) (w.setRow g (jQ cur o cs)):=by
 have E:=run_loadCells_list (P:=P) w a cs d;have F:=run_storeCells_at P g o t cs 0 cur w B (by simpa using f) C
 cases hq:P.info? elem with
 | none=>simp[hq]at h
 | some i=>
  have z:i.size=K:=by simpa [hq]using h
  simp[Builtin.copy_,run_underlying q,Builtin.lenOf,Builtin.firstCells,sizeOf,typeInfo,hq,z,<-s,<-u,E,F,jQ]
theorem qdj(w:Ao)(t ty elem:TypeId)(i:TypeInfo)(K g n cap m c:Nat)(a:Addr)(cur:Array Ap)(h:TypeId)(cs:List Ap)
  (p:P.underlying t=G (.slice elem)) (u:P.info? elem=G i) (s:i.size=K)
  (z:w.1[g]?=G (Al cur h (0,0))) (q:A cs=m * K) (C:n+m<=cap)
  (d:∀j v,cs[j]?=G v->w.cell? (a.add j)=G v) (f:n * K+A cs<=cur.size) (B:∀v∈cs,v.oneCell'=ui) :
  (Builtin.append_ #[t,t] ty #[.slice (G (D g 0 O)) n cap,.slice (G a) m c]).run P w=.ok (.slice (G (D g 0 O)) (n+m) cap) (w.setRow g (jQ cur (n * K) cs)):=by
 have E:=run_loadCells_list (P:=P) w a cs d;have F:=run_storeCells_at P g (n * K) h cs 0 cur w z (by simpa using f) B;have H:(⟨g,0,O⟩:Addr).add (n * K)=⟨g,n * K,O⟩:=by grind[Addr.add]
 simp[Builtin.append_,run_underlying p,Builtin.lenOf,Builtin.firstCells,sizeOf,typeInfo,u,s,C,<-q,E,H,F,jQ]
theorem gR(z:Array Ap)(n:Nat):A (Builtin.zeroCells z n).toList=n * z.size:=by simp[Builtin.zeroCells]
theorem qkq{z:Array Ap}(n:Nat)(h:∀v∈z,v.oneCell'=ui):∀v∈(Builtin.zeroCells z n).toList,v.oneCell'=ui:=by
 intro v hv;simp[Builtin.zeroCells]at hv
 grind[Nat.mod_lt]
theorem qy7(w:Ao)(t elem ty:TypeId)(z:Ap)(K g o n c:Nat)(cur:Array Ap)(d:TypeId)
  (h:P.underlying t=G (.slice elem)) (hv:∀w,(zeroValue elem).run P w=.ok z w) (p:z.cells.size=K) (j:∀v∈z.cells,v.oneCell'=ui)
  (i:w.1[g]?=G (Al cur d (0,0))) (f:o+(n+1) * K<=cur.size) :
  (Builtin.clear_ #[t] ty #[.slice (G (D g o O)) (n+1) c]).run P w=.ok (.tuple #[]) (w.setRow g (jQ cur o (Builtin.zeroCells z.cells (n+1)).toList)):=by
 have m:=run_storeCells_at P g o d (Builtin.zeroCells z.cells (n+1)).toList 0 cur w i (by grind[gR]) (qkq _ j);simp[Builtin.clear_,run_underlying h,hv,m,jQ]
theorem vM(h:ue w base e size (C (G (D g 0 O)) n cap) n xs):base<=g/\n<=cap/\cap<=maxLen/\∃cur,w.1[g]?=G (Al cur e (0,0))/\cur.size=cap * size/\cur.toList.take (n * size)=xs:=by
 obtain⟨hv,_⟩|⟨j,cap',d,hv,hb,i,p,m,q,f⟩:=h.2<;>grind
theorem jD(w:Ao)(g:Nat)(cur:Array Ap):w.grownBy (w.setRow g cur) (G g):=⟨rfl,rfl,rfl,ur,λk _ d=>setRow_other w g k cur (λe=>d (by rw[e]))⟩
theorem g9{b:Ao}(h:a.grownBy b r)(k:b.grownBy c r):a.grownBy c r:=⟨k.os.trans h.os,k.tape.trans h.tape,k.output.trans h.output,bu h.size k.size,λi f d=>(k.block i (au f h.size) d).trans (h.block i f d)⟩
theorem qrk{b:Ao}(h:a.grownBy b r)(k:b.grownBy c (G g))(j:Z a.1<=g):a.grownBy c r:=⟨k.os.trans h.os,k.tape.trans h.tape,k.output.trans h.output,bu h.size k.size,λi d f=>(k.block i (au d h.size) (λe=>by simp at e;omega)).trans (h.block i d f)⟩
end
section
attribute [local go_sem ↓] vp
def qt(l:List Sb):List Ap:=l.flatMap qX
theorem vJ(l:List Sb):A (qt l)=A l * 3:=by
 induction l<;>grind[qt,qX,Sb]
theorem vT(a b:List Sb):qt (a++b)=qt a++qt b:=List.flatMap_append
theorem qbj(l:List Sb)(k:Nat)(d:k<=A l):qt (l.take k)=(qt l).take (k * 3):=by
 grind[vT,List.take_append_drop,vJ]
theorem qbi(l:List Sb)(k:Nat)(d:k<=A l):qt (l.drop k)=(qt l).drop (k * 3):=by
 have h:=vT (l.take k) (l.drop k)
 grind[List.take_append_drop,vJ]
theorem jS(l:List Sb):∀v∈qt l,v.oneCell'=ui:=by
 intro v hv;obtain⟨s,_,d⟩:=List.mem_flatMap.1 hv;simp[qX]at d;obtain rfl|rfl|rfl:=d<;>rfl
theorem qce:(prog.info? 130).map (λi=>(i.zero,i.size,i.bytes))=G (G (Ai #[I J 0,Ag O,C O 0 0]),3,40):=uw
abbrev SbRow(w:Ao)(base:Nat)(v:Ap)(l:List Sb):Prop:=ue w base 130 3 v (A l) (qt l)
def pV(l:List Sb)(k:Nat)(s:Sb):List Sb:=l.take k++s::l.drop k
theorem xy(l:List Sb)(k:Nat)(s:Sb):A (pV l k s)=A l+1:=by simp[pV];omega
theorem vI(h:ue w base e size v n xs):(v=C O 0 0/\n=0)\/∃g cap,v=C (G (D g 0 O)) n cap:=by
 obtain⟨f,d⟩|⟨g,cap,cur,rfl,_⟩:=h.2<;>grind
def ki(w:Ao)(base:Nat)(v:Ap)(l:List Sb)(e:Ending)(w':Ao):Prop:=∃g cap,e=Ak (C (G (D g 0 O)) (A l) cap)/\SbRow w' base (C (G (D g 0 O)) (A l) cap) l/\w.grownBy w' (ug v)/\(ug v=G g\/Z w.1<=g)
theorem vu9{d:Nat}{l:List Sb}{s:Sb}(J:A l<=1000)(h:SbRow w base v l)(hv:w.1[d]?=G (Al (qX s).toArray 130 (0,0)))(q:base<=Z w.1)(ty:TypeId):
  ∃g cap w',(xb #[48,48] ty #[v,C (G (D d 0 O)) 1 1]).run prog w=.ok (C (G (D g 0 O)) (A l+1) cap) w'/\Hid (SbRow w' base (C (G (D g 0 O)) (A l+1) cap) (l++[s]))/\Hid (w.grownBy w' (ug v))/\Hid (ug v=G g\/Z w.1<=g):=by
 obtain⟨i,m,z,E,B⟩:=info_parts qce;obtain⟨g,cap,f,j,L,F,K,H⟩:=run_append_lies (P:=prog) w 48 ty base 130 i _ 3 40 underlying48 m z E B rfl uq v (A l) (qt l) h
  ⟨d,0,O⟩ 1 1 (qX s) rfl (World.news_of_block (cs:=(qX s).toArray) (t:=130) (fr:=(0,0)) hv) (λu I=>jS [s] u (by grind[qt])) uq (by unfold maxLen;omega) uq q _ rfl
 refine⟨g,cap,f,j,qd ?_,qd F,qd ?_⟩<;>grind[qt]
theorem qww(l:List Sb)(s:Sb)(i:A l<=1000)(v:Ap)(base f:Nat)(w:Ao)(h:SbRow w base v l)(hv:w.1[f]?=G (Al (qX s).toArray 130 (0,0)))(u:base<=Z w.1):
  uo 70 #[v,I J (A l),C (G (D f 0 O)) 1 1] w (ki w base v (pV l (A l) s)):=by
 obtain⟨g,cap,m,q,z,B,E⟩:=vu9 i h hv u 48
 have d:Hid (ki w base v (pV l (A l) s) (Ak (C (G (D g 0 O)) (A l+1) cap)) m):=qd (by
  have e:pV l (A l) s=l++[s]:=by simp[pV]
  rw[e];refine⟨g,cap,ur, ?_,q9 B,q9 E⟩;have:=q9 z
  rwa [cd,dj])
 have j:=vI h;generalize ki w base v (pV l (A l) s)=Q at *;obtain⟨n,F⟩:=ie (A l);rw[F]at q d j i |-;obtain⟨rfl,rfl⟩|⟨H,c0,rfl⟩:=j
 .go_enter func70,ntmps70
  go_wp2
  exact q9 d
 by_cases hc:c0=n
 .subst hc
  go_enter func70,ntmps70
  go_wp2
  exact q9 d
 go_enter func70,ntmps70
 go_wp2
 exact q9 d
end
end Go.Proofs.YtmepkbgodcffoaaGreatDoor
