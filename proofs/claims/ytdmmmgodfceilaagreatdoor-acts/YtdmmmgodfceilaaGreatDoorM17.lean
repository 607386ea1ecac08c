/- The document's answer -/
import Derived.Test.YtdmmmgodfceilaaGreatDoorM16
import Derived.Sort.Walk0
import Derived.Deep.CutBlock
set_option maxHeartbeats 32000000
set_option maxRecDepth 100000
namespace Go.Proofs.YtdmmmgodfceilaaGreatDoor
open Go.RowKit Go.Proofs.Tryz
open Go renaming Value->Ap,World->Ao
open Go.Ending renaming returned->Ak
open Go.IntKind renaming i64->J
open Go.Obj renaming cells->Al
open Go.Value renaming agg->Ai,bool->Ah,int->I,pointer->Ag,slice->C,string->Y
open Option renaming none->O,some->G
open Or renaming inl->Am,inr->An
variable{neg:Bool}{E Ae O1 O2 QB S:tq}{p:CP}{c x y:Co}{Q:Ending->Ao->Prop}{a o:Int}{ts:List tu}{T t:tu}{b base cap i k ob pb q:Nat}{N N':Nat->Prop}{f g h j r:RF}{P PZ:RF->Ao->Prop}{d inv iv lv v:Ap}{W w w' w1:Ao}
structure SixAt(q:Nat)(W W':Ao):Prop where
 block:∀k,k≠q->W'.1[k]?=W.1[k]?
 size:W'.1.size=W.1.size
 u:∀(B:Nat) (a:Ao),B<=q->Below B a W->Below B a W'
theorem yY(W:Ao)(q:Nat)(a b c d f g:Ap):SixAt q W ((((((W.setCell ⟨q,0,O⟩ a).setCell ⟨q,1,O⟩ b).setCell ⟨q,2,O⟩ c).setCell ⟨q,3,O⟩ d).setCell ⟨q,4,O⟩ f).setCell ⟨q,5,O⟩ g):=by
 refine⟨λk e=>?_,by simp only[md],λB a hq m=>(((((m.setCell hq _).setCell hq _).setCell hq _).setCell hq _).setCell hq _).setCell hq _⟩;rw[au _ ⟨q,5,O⟩ _ k e,au _ ⟨q,4,O⟩ _ k e,au _ ⟨q,3,O⟩ _ k e,au _ ⟨q,2,O⟩ _ k e,au _ ⟨q,1,O⟩ _ k e,au _ ⟨q,0,O⟩ _ k e]
theorem SixAt.rf{W':Ao}(h:SixAt q W W')(m:RfAt N W c f)(hq:¬N q)(u:∀b,N b->b<W.1.size->N' b):RfAt N' W' c f:=
 m.keep (λb n _=>h.block b (λe=>hq (e ▸ n))) (by rw[h.size];exact ui) u
theorem qtz{cl:Int}{sw:Bool}(U:(Ae=⟨#[65,78,68]⟩/\cl=1/\sw=true)\/(Ae=⟨#[79,82]⟩/\cl=1/\sw=true)\/(Ae=⟨#[61]⟩/\cl=1/\sw=true)\/(Ae=⟨#[60]⟩/\cl=1/\sw=false)\/(Ae=⟨#[60,61]⟩/\cl=1/\sw=false)\/(Ae=⟨#[43]⟩/\cl=2/\sw=true)\/(Ae=⟨#[45]⟩/\cl=2/\sw=false)\/(Ae=⟨#[42]⟩/\cl=2/\sw=true)\/(Ae=⟨#[47]⟩/\cl=2/\sw=false))(B:(sw&&Op.bytesLess g.Q f.Q)=false)(F:f.Q.length<=400000000)(D:g.Q.length<=400000000)(X:T=[40]++f.Q++[32]++Ae.data.toList++[32]++g.Q++[41])
   (HM:∀W,Xb w W->w.1.size+1+1+1<W.1.size->(∀k,k<12->W.cell? ⟨w.1.size+1+1+1,k,O⟩=(qw f++qw g)[k]?) ->
   ua 150 #[Y Ae,Y (BS T),I J cl,C (G ⟨w.1.size+1+1+1,0,O⟩) 2 2,I J 0] W λe w'=>Xb W w'/\∃r:RF,e=Ak r.v/\P r w')
   (HQ:∀r w1 w',Xb w w1->P r w1->SixAt (w.1.size+1+1) w1 w'->Q (Ak r.v) w') :
  ua 148 #[Y Ae,f.v,g.v] w Q:=by
 have m:Ae.size<=3:=by rcases U with⟨rfl,rfl,rfl⟩|⟨rfl,rfl,rfl⟩|⟨rfl,rfl,rfl⟩|⟨rfl,rfl,rfl⟩|⟨rfl,rfl,rfl⟩|⟨rfl,rfl,rfl⟩|⟨rfl,rfl,rfl⟩|⟨rfl,rfl,rfl⟩|⟨rfl,rfl,rfl⟩<;>decide
 obtain⟨R1,e1,R,a1⟩:=jn ⟨#[40]⟩ (BS f.Q) 1 400000000 ui (by rw[qJ];exact F) ue;obtain⟨R2,e2,M,a2⟩:=jn R1 ⟨#[32]⟩ 400000001 1 R ui ue;obtain⟨R3,e3,L,a3⟩:=jn R2 Ae 400000002 3 M m ue;obtain⟨R4,e4,K,a4⟩:=jn R3 ⟨#[32]⟩ 400000005 1 L ui ue;obtain⟨R5,e5,H,a5⟩:=jn R4 (BS g.Q) 400000006 400000000 K (by rw[qJ];exact D) ue;obtain⟨R6,e6,y6,a6⟩:=jn R5 ⟨#[41]⟩ 800000006 1 H ui ue
 have Z:BS T=R6:=by
  rw[X,e6,e5,e4,e3,e2,e1,show(⟨#[40]⟩:tq)=BS [40] from rfl,show(⟨#[32]⟩:tq)=BS [32] from rfl,show(⟨#[41]⟩:tq)=BS [41] from rfl,show Ae=BS Ae.data.toList from(vig Ae).symm,jo,jo,jo,jo,jo,jo,xB]
 have aT:Op.bytesLess (BS g.Q).toList (BS f.Q).toList=Op.bytesLess g.Q f.Q:=by rw[qP,qP]
 have A:=qd HM;rw[Z]at A;have M5:=qd HQ;simp only[RF.v]at A M5 |-;have n:Hid (Xb w ((((w.alloc (Al #[Y f.op,Y (BS f.Q),I J f.H,C f.pa f.pn f.pc,C f.ta f.tn f.tc,C f.ra f.rn f.rc] 106)).alloc (Al #[Y g.op,Y (BS g.Q),I J g.H,C g.pa g.pn g.pc,C g.ta g.tn g.tc,C g.ra g.rn g.rc] 106)).alloc zoC).alloc (Al #[Y f.op,Y (BS f.Q),I J f.H,C f.pa f.pn f.pc,C f.ta f.tn f.tc,C f.ra f.rn f.rc,Y g.op,Y (BS g.Q),I J g.H,C g.pa g.pn g.pc,C g.ta g.tn g.tc,C g.ra g.rn g.rc] 106))/\w.1.size+1+1+1<((((w.alloc (Al #[Y f.op,Y (BS f.Q),I J f.H,C f.pa f.pn f.pc,C f.ta f.tn f.tc,C f.ra f.rn f.rc] 106)).alloc (Al #[Y g.op,Y (BS g.Q),I J g.H,C g.pa g.pn g.pc,C g.ta g.tn g.tc,C g.ra g.rn g.rc] 106)).alloc zoC).alloc (Al #[Y f.op,Y (BS f.Q),I J f.H,C f.pa f.pn f.pc,C f.ta f.tn f.tc,C f.ra f.rn f.rc,Y g.op,Y (BS g.Q),I J g.H,C g.pa g.pn g.pc,C g.ta g.tn g.tc,C g.ra g.rn g.rc] 106)).1.size/\∀k,k<12->((((w.alloc (Al #[Y f.op,Y (BS f.Q),I J f.H,C f.pa f.pn f.pc,C f.ta f.tn f.tc,C f.ra f.rn f.rc] 106)).alloc (Al #[Y g.op,Y (BS g.Q),I J g.H,C g.pa g.pn g.pc,C g.ta g.tn g.tc,C g.ra g.rn g.rc] 106)).alloc zoC).alloc (Al #[Y f.op,Y (BS f.Q),I J f.H,C f.pa f.pn f.pc,C f.ta f.tn f.tc,C f.ra f.rn f.rc,Y g.op,Y (BS g.Q),I J g.H,C g.pa g.pn g.pc,C g.ta g.tn g.tc,C g.ra g.rn g.rc] 106)).cell? ⟨w.1.size+1+1+1,k,O⟩=(qw f++qw g)[k]?):=qd ⟨((((uj.alloc ui _).alloc uc _).alloc ug _).alloc ug _),uc,λk hk=>by rw[ch _ _ _ _ uc];match k,hk with|0,_=>rfl|1,_=>rfl|2,_=>rfl|3,_=>rfl|4,_=>rfl|5,_=>rfl|6,_=>rfl|7,_=>rfl|8,_=>rfl|9,_=>rfl|10,_=>rfl|11,_=>rfl⟩;clear HM HQ F D X Z e1 e2 e3 e4 e5 e6 R M L K H y6 m;rcases U with⟨rfl,rfl,rfl⟩|⟨rfl,rfl,rfl⟩|⟨rfl,rfl,rfl⟩|⟨rfl,rfl,rfl⟩|⟨rfl,rfl,rfl⟩|⟨rfl,rfl,rfl⟩|⟨rfl,rfl,rfl⟩|⟨rfl,rfl,rfl⟩|⟨rfl,rfl,rfl⟩
 all_goals try(rw[li]at B;rw[B]at aT)
 all_goals clear B
 all_goals go_enter func148,ntmps148
 all_goals go_wp2_with(go_at_call 150;refine(A _ n.1 n.2.1 n.2.2).mono ?_;rintro e w1⟨u,r,rfl,hp⟩;have D6:=qd (qg n.1 u);obtain⟨C9,G8⟩:=qk u;have r0:∀i,w1.cell? ⟨w.1.size+1+1,i,O⟩=(#[Y ⟨#[]⟩,Y ⟨#[]⟩,I J 0,C O 0 0,C O 0 0,C O 0 0]:Array Ap)[i]?:=(λi=>(C9 _ i ug).trans (by simp[go_sem]));have rz:Xf w1 (w.1.size+1+1):=(λi=>(G8 _ i ug).trans (by simp[go_sem]));have rl:w.1.size+1+1<w1.1.size:=(by have:=u.size;simp at this;omega);have bB:=qd hp;clear u C9 G8 hp)
 all_goals refine bj (by simp[go_sem,r0]<;>rfl) rfl ?_
 all_goals exact q9 M5 r w1 _ D6 bB (yY _ _ _ _ _ _ _ _)
theorem qp7{x y:tu}(h:Op.bytesLess x y=true):Op.bytesLess y x=false:=by
 induction x generalizing y with
 | nil=>cases y<;>simp[Op.bytesLess]at h |-
 | cons a x ih=>
  cases y with
  | nil=>simp[Op.bytesLess]at h
  | cons b y=>
   simp only[Op.bytesLess,ff,dh,fj,ew,ii,oy,decide_eq_false_iff_not]at h |-;rcases h with h|⟨rfl,h⟩;exact⟨λe=>sm _ (UInt8.lt_trans h e),Am (by simp;rintro rfl;exact sm _ h)⟩;exact⟨sm _,An (ih h)⟩
theorem qu0(L:Ae=⟨#[65,78,68]⟩\/Ae=⟨#[79,82]⟩\/Ae=⟨#[61]⟩\/Ae=⟨#[43]⟩\/Ae=⟨#[42]⟩)(H:Op.bytesLess g.Q f.Q=true)
   (D:∀W,Xb w W->w.1.size+1+1+1<=W.1.size->ua 148 #[Y Ae,g.v,f.v] W λe w'=>Xb W w'/\∃r:RF,e=Ak r.v/\P r w')
   (B:∀r w1 w',Xb w w1->P r w1->SixAt (w.1.size+1+1) w1 w'->Q (Ak r.v) w') :
  ua 148 #[Y Ae,f.v,g.v] w Q:=by
 have Z:Op.bytesLess (BS g.Q).toList (BS f.Q).toList=true:=by rw[qP,qP];exact H
 have u:=qd D;have A:=qd B;simp only[RF.v]at u A |-;have n:Hid (Xb w (((w.alloc (Al #[Y f.op,Y (BS f.Q),I J f.H,C f.pa f.pn f.pc,C f.ta f.tn f.tc,C f.ra f.rn f.rc] 106)).alloc (Al #[Y g.op,Y (BS g.Q),I J g.H,C g.pa g.pn g.pc,C g.ta g.tn g.tc,C g.ra g.rn g.rc] 106)).alloc zoC)/\w.1.size+1+1+1<=(((w.alloc (Al #[Y f.op,Y (BS f.Q),I J f.H,C f.pa f.pn f.pc,C f.ta f.tn f.tc,C f.ra f.rn f.rc] 106)).alloc (Al #[Y g.op,Y (BS g.Q),I J g.H,C g.pa g.pn g.pc,C g.ta g.tn g.tc,C g.ra g.rn g.rc] 106)).alloc zoC).1.size):=qd ⟨(((uj.alloc ui _).alloc uc _).alloc ug _),uc⟩;clear D B H;rcases L with rfl|rfl|rfl|rfl|rfl
 all_goals go_enter func148,ntmps148
 all_goals go_wp2_with(go_at_call 148;refine(u _ n.1 n.2).mono ?_;rintro e w1⟨m,r,rfl,hp⟩;have R:=qd (qg n.1 m);obtain⟨G,F⟩:=qk m;have K:∀i,w1.cell? ⟨w.1.size+1+1,i,O⟩=(#[Y ⟨#[]⟩,Y ⟨#[]⟩,I J 0,C O 0 0,C O 0 0,C O 0 0]:Array Ap)[i]?:=(λi=>(G _ i ug).trans (by simp[go_sem]));have U:Xf w1 (w.1.size+1+1):=(λi=>(F _ i ug).trans (by simp[go_sem]));have X:w.1.size+1+1<w1.1.size:=(by have:=m.size;simp at this;omega);have M:=qd hp;clear m G F hp)
 all_goals refine bj (by simp[go_sem,K]<;>rfl) rfl ?_
 all_goals exact q9 A r w1 _ R M (yY _ _ _ _ _ _ _ _)
def vF(o:Int):Prop:=o=6\/o=7\/o=8\/o=10\/o=11\/o=16\/o=17\/o=18\/o=19
theorem qk9(B:vF o)(u:RfAt N w x f)(n:RfAt N w y g)(D:kS x)(m:kS y)(F:∀b,N b->b<w.1.size)(J:(xY o&&Op.bytesLess (qt y) (qt x))=false):
  ua 148 #[Y (BS (qH o)),f.v,g.v] w (xI N w (.bin (qq o) x y)):=by
 refine qtz (cl:=qmk o) (sw:=xY o) (T:=qt (.bin (qq o) x y)) (P:=λr w1=>RfAt (λb=>N b\/w.1.size+1+1+1<=b) w1 (.bin (qq o) x y) r) ?_ ?_ ?_ ?_ ?_ ?_ ?_;rcases B with rfl|rfl|rfl|rfl|rfl|rfl|rfl|rfl|rfl;exact Am ⟨rfl,rfl,rfl⟩;exact An (Am ⟨rfl,rfl,rfl⟩);exact An (An (Am ⟨rfl,rfl,rfl⟩));exact An (An (An (Am ⟨rfl,rfl,rfl⟩)));exact An (An (An (An (Am ⟨rfl,rfl,rfl⟩))));exact An (An (An (An (An (Am ⟨rfl,rfl,rfl⟩)))));exact An (An (An (An (An (An (Am ⟨rfl,rfl,rfl⟩))))));exact An (An (An (An (An (An (An (Am ⟨rfl,rfl,rfl⟩)))))));exact An (An (An (An (An (An (An (An (⟨rfl,rfl,rfl⟩))))))));rw[u.Q,n.Q];exact J;rw[u.Q];exact D.1;rw[n.Q];exact m.1
 rw[u.Q,n.Q];rcases B with rfl|rfl|rfl|rfl|rfl|rfl|rfl|rfl|rfl<;>rfl
 .intro W A hz hc
  have hp:=vpu (N:=λb=>N b\/b=w.1.size+1+1+1) ((u.below A).keep (λ_ _ _=>rfl) ui (λ_ h _=>Am h)) ((n.below A).keep (λ_ _ _=>rfl) ui (λ_ h _=>Am h)) hz hc;refine(qzb o _ rfl (by rcases B with rfl|rfl|rfl|rfl|rfl|rfl|rfl|rfl|rfl<;>decide) hp (An rfl) D m).mono ?_;rintro e w'⟨H,r,I,G⟩;exact⟨H,r,I,G.keep (λ_ _ _=>rfl) ui (λb h _=>by rcases h with(h|h)|h<;>first|exact Am h|(right;omega))⟩
 intro r w1 w' A hp C;refine⟨C.u _ _ ub A,r,rfl,C.rf hp (by rintro (h|h);have:=F _ h;omega;omega) (λb h _=>by rcases h with h|h<;>first|exact Am h|(right;omega))⟩
theorem gU(B:vF o)(A:RfAt N w x f)(u:RfAt N w y g)(F:kS x)(n:kS y)(C:∀b,N b->b<w.1.size):
  ua 148 #[Y (BS (qH o)),f.v,g.v] w (xI N w (qp o x y)):=by
 unfold qp
 by_cases h:(xY o&&Op.bytesLess (qt y) (qt x))=true
 .rw[bo h]
  have L:=h;rw[dh]at h;refine qu0 (P:=λr w1=>RfAt (λb=>N b\/w.1.size+1+1+1<=b) w1 (.bin (qq o) y x) r) ?_ ?_ ?_ ?_;rcases B with rfl|rfl|rfl|rfl|rfl|rfl|rfl|rfl|rfl;exact Am rfl;exact An (Am rfl);exact An (An (Am rfl));exact absurd h.1 ue;exact absurd h.1 ue;exact An (An (An (Am rfl)));exact absurd h.1 ue;exact An (An (An (An (rfl))));exact absurd h.1 ue;rw[A.Q,u.Q];exact h.2
  .intro W m hz
   have K:(xY o&&Op.bytesLess (qt x) (qt y))=false:=by
    cases hq:Op.bytesLess (qt x) (qt y) with
    | false=>exact iz _
    | true=>exact absurd h.2 (by rw[qp7 hq];decide)
   refine(qk9 B (u.below m) (A.below m) n F (λb J=>aq (C b J) m.size) K).mono ?_;rintro e w'⟨H,r,I,G⟩;exact⟨H,r,I,G.keep (λ_ _ _=>rfl) ui (λb h _=>by rcases h with h|h<;>first|exact Am h|(right;omega))⟩
  intro r w1 w' m hp D;refine⟨D.u _ _ ub m,r,rfl,D.rf hp (by rintro (h|h);have:=C _ h;omega;omega) (λb h _=>by rcases h with h|h<;>first|exact Am h|(right;omega))⟩
 rw[ak h];exact qk9 B A u F n C (by simpa using h)
abbrev rfC(f:RF):Array Ap:=#[Y f.op,Y (BS f.Q),I J f.H,C f.pa f.pn f.pc,C f.ta f.tn f.tc,C f.ra f.rn f.rc]
abbrev zrC:Array Ap:=#[Y ⟨#[]⟩,Y ⟨#[]⟩,I J 0,C O 0 0,C O 0 0,C O 0 0]
theorem qi2(e:(∀i,W.cell? ⟨q,i,O⟩=zrC[i]?)/\(Xf W q)/\q<W.1.size)(m:Xb W w1)(n:Xb w W):(∀i,w1.cell? ⟨q,i,O⟩=zrC[i]?)/\(Xf w1 q)/\q<w1.1.size/\Xb w w1:=
 ⟨λi=>((qk m).1 _ i e.2.2).trans (e.1 i),λi=>((qk m).2 _ i e.2.2).trans (e.2.1 i),aq e.2.2 m.size,qg n m⟩
theorem vie(w:Ao)(a:Array Ap):Xb w ((w.alloc (Al a 106)).alloc (Al zrC 106))/\(∀i,((w.alloc (Al a 106)).alloc (Al zrC 106)).cell? ⟨w.1.size+1,i,O⟩=zrC[i]?)/\(∀i,((w.alloc (Al a 106)).alloc (Al zrC 106)).frozen? ⟨w.1.size+1,i,O⟩=false)/\w.1.size+1<((w.alloc (Al a 106)).alloc (Al zrC 106)).1.size:=
 ⟨(uj.alloc ui _).alloc uc _,λi=>ch _ _ _ _ uc,λi=>mu _ _ _ _ uc,uc⟩
theorem qjt(hK:((f.op.toList==[78,79,84])=false/\(f.op.toList==[65,78,68])=false/\(f.op.toList==[79,82])=false/\(f.op.toList==[60])=false/\(f.op.toList==[60,61])=false/\(f.op.toList==[84,82,85,69])=false/\(f.op.toList==[70,65,76,83,69])=false)\/∃pb cap cl,f.op=⟨#[78,79,84]⟩/\f.pa=G ⟨pb,0,O⟩/\f.pn=1/\f.pc=cap/\pb<w.1.size/\w.cell? ⟨pb,2,O⟩=G (I J cl)/\(cl==1)=false)(u:f.Q.length<=400000000)(D:T=[40,78,79,84,32]++f.Q++[41])
   (U:∀W,Xb w W->w.1.size+1+1<W.1.size->(∀k,k<6->W.cell? ⟨w.1.size+1+1,k,O⟩=(qw f)[k]?) ->
   ua 150 #[Y ⟨#[78,79,84]⟩,Y (BS T),I J 1,C (G ⟨w.1.size+1+1,0,O⟩) 1 1,I J 0] W λe w'=>Xb W w'/\∃r:RF,e=Ak r.v/\P r w')  (R:∀r w1 w',Xb w w1->P r w1->SixAt (w.1.size+1) w1 w'->Q (Ak r.v) w'):ua 102 #[f.v] w Q:=by
 obtain⟨R1,L,A,a1⟩:=jn ⟨#[40,78,79,84,32]⟩ (BS f.Q) 5 400000000 ui (by rw[qJ];exact u) ue;obtain⟨R2,K,Z,a2⟩:=jn R1 ⟨#[41]⟩ 400000005 1 A ui ue
 have F:BS T=R2:=by
  rw[D,K,L,show(⟨#[40,78,79,84,32]⟩:tq)=BS [40,78,79,84,32] from rfl,show(⟨#[41]⟩:tq)=BS [41] from rfl,jo,jo]
 have m:Hid (ua _ _ (((w.alloc (Al (rfC f) 106)).alloc (Al zrC 106)).alloc (Al (rfC f) 106)) _):=qd (U _ (((uj.alloc ui _).alloc uc _).alloc ug _) uc (λk hk=>by rw[ch _ _ _ _ uc];simp[qw]));have n:=qd (vie w (rfC f));rw[F]at m;have M:=qd R;simp only[RF.v]at m M |-;clear U R u D F L K A Z;rcases hK with⟨k0,k1,k2,k3,k4,k5,k6⟩|⟨pb,cap,cl,h0,rC,fA,uE,V8,c2,B⟩
 all_goals
  first|(have np:¬pb=w.1.size:=ub;have lC:¬pb=w.1.size+1:=ub;simp only[rfC,h0,rC,fA,uE]at m n |-)|skip
  go_enter func102,ntmps102
  go_wp2_with(go_at_call 150;refine m.mono ?_;rintro e w1⟨X,r,rfl,hp⟩;obtain⟨r0,rz,rl,H⟩:=qi2 n.2 (qg (uj.alloc ui _) X) n.1;have D6:=qd H;have bB:=qd hp;clear X H hp)
  refine bj (by simp[go_sem,r0]<;>rfl) rfl ?_;exact q9 M r w1 _ D6 bB (yY _ _ _ _ _ _ _ _)
theorem qz1(C:f.op=⟨#[78,79,84]⟩)(A:f.pa=G ⟨pb,0,O⟩)(D:f.pn=1)(u:f.pc=cap)(I:pb<w.1.size)(B:∀k,k<6->w.cell? ⟨pb,k,O⟩=(qw g)[k]?)(e:g.H=1)
   (n:∀w',Xb w w'->Q (Ak g.v) w'):ua 102 #[f.v] w Q:=by
 simp only[qw,e]at B;have F:¬pb=w.1.size:=ub;have H:¬pb=w.1.size+1:=ub;have m:=qd n;simp only[RF.v]at m |-;rw[C,A,D,u];rw[e]at m;clear n e;go_enter func102,ntmps102
 go_wp2
 refine tw ?_;exact q9 m _ ((uj.alloc ui _).alloc uc _)
theorem qyz(ho:(O1=⟨#[65,78,68]⟩/\O2=⟨#[79,82]⟩)\/(O1=⟨#[79,82]⟩/\O2=⟨#[65,78,68]⟩))(U:f.op=O1)(M:f.pa=G ⟨pb,0,O⟩)(X:f.pn=2)(L:f.pc=cap)(V8:pb<w.1.size)(R:∀k,k<12->w.cell? ⟨pb,k,O⟩=(qw g++qw h)[k]?)
  {P1 P2 P3:RF->Ao->Prop} (H1:∀W,Xb w W->w.1.size+1+1<=W.1.size->ua 102 #[g.v] W λe w'=>Xb W w'/\∃r:RF,e=Ak r.v/\P1 r w')
  (H2:∀W,Xb w W->w.1.size+1+1<=W.1.size->ua 102 #[h.v] W λe w'=>Xb W w'/\∃r:RF,e=Ak r.v/\P2 r w')
  (H3:∀W w1 w2 n A,Xb w W->P1 n w1->Xb w1 w2->P2 A w2->Xb w2 W->w.1.size+1+1<=w1.1.size->ua 148 #[Y O2,n.v,A.v] W λe w'=>Xb W w'/\∃r:RF,e=Ak r.v/\P3 r w')
   (HQ:∀r w1 w',Xb w w1->P3 r w1->SixAt (w.1.size+1) w1 w'->Q (Ak r.v) w'):ua 102 #[f.v] w Q:=by
 simp only[qw,dk,lj]at R;have np:¬pb=w.1.size:=ub;have lC:¬pb=w.1.size+1:=ub;have D1:=qd H1;have D2:=qd H2;have D3:=qd H3;have M5:=qd HQ;simp only[RF.v]at D1 D2 D3 M5 |-;rw[U,M,X,L];clear HQ H1 H2 H3 U M X L;have H:=qd (vie w #[Y O1,Y (BS f.Q),I J f.H,C (G ⟨pb,0,O⟩) 2 cap,C f.ta f.tn f.tc,C f.ra f.rn f.rc]);rcases ho with⟨rfl,rfl⟩|⟨rfl,rfl⟩
 all_goals
  go_enter func102,ntmps102
  go_wp2_with(first|(go_at_call 148;refine(D3 _ w1 w2 n A iW B NS K (uj.alloc ui _) B8).mono ?_;rintro e w5⟨Z,r,rfl,u⟩;obtain⟨r0,rz,rl,m⟩:=qi2 Z2 (qg (uj.alloc ui _) Z) U0;have T5:=qd m;have bB:=qd u;clear Z m u)|(go_at_call 102;have _q:=B;refine(D2 _ YQ ud).mono ?_;rintro e w2⟨D,A,rfl,U9⟩;have NS:=qd (qg ((Below.refl w1.1.size w1).alloc ui _) D);obtain⟨t0,t1,t2,m⟩:=qi2 Z1 NS D6;have Z2:=qd (And.intro t0 (And.intro t1 t2));have U0:=qd m;have iW:=qd (m.alloc m.size (Al (rfC A) 106));have K:=qd U9;have D4:w1.1.size+1<=w2.1.size:=(by have:=D.size;simp at this;omega);have v:∀i,w2.cell? ⟨w1.1.size,i,O⟩=(rfC n)[i]?:=(λi=>((qk D).1 _ i uc).trans uc);have nr1:¬w1.1.size=w2.1.size:=ub;have ZR:w1.1.size<w2.1.size:=ub;have nr3:¬w.1.size+1=w2.1.size:=ub;have nr4:w.1.size+1<w2.1.size:=ub;clear D U9 m)|(go_at_call 102;refine(D1 _ H.1 uc).mono ?_;rintro e w1⟨F,n,rfl,T8⟩;have B:=qd T8;obtain⟨s0,s1,s2,m⟩:=qi2 H.2 F H.1;have Z1:=qd (And.intro s0 (And.intro s1 s2));have D6:=qd m;have YQ:=qd (m.alloc m.size (Al (rfC n) 106));have B8:w.1.size+1+1<=w1.1.size:=(by have:=F.size;simp at this;omega);have f3:Xc w1 w.1.size 3 (C (G ⟨pb,0,O⟩) 2 cap):=((qk F).1 _ 3 ud).trans (by simp[go_sem]);have d:∀k,k<12->w1.cell? ⟨pb,k,O⟩=_:=(λk hk=>(m.cell (p:=⟨pb,k,O⟩) V8).trans (R k hk));have np3:pb<w1.1.size:=ub;have nq1:¬w.1.size=w1.1.size:=ub;have nq2:w.1.size<w1.1.size:=ub;have nq3:¬w.1.size+1=w1.1.size:=ub;have nq4:w.1.size+1<w1.1.size:=ub;have np4:¬pb=w1.1.size:=ub;clear F T8 m))
  refine bj (by simp[go_sem,r0]<;>rfl) rfl ?_;exact q9 M5 r w5 _ T5 bB (yY _ _ _ _ _ _ _ _)
theorem qz0(ho:(O1=⟨#[60]⟩/\O2=⟨#[60,61]⟩)\/(O1=⟨#[60,61]⟩/\O2=⟨#[60]⟩))(K:f.op=O1)(F:f.pa=G ⟨pb,0,O⟩)(L:f.pn=2)(D:f.pc=cap)(u:pb<w.1.size)(m:∀k,k<12->w.cell? ⟨pb,k,O⟩=(qw g++qw h)[k]?)
   (U:∀W,Xb w W->w.1.size+1+1<=W.1.size->ua 148 #[Y O2,h.v,g.v] W λe w'=>Xb W w'/\∃r:RF,e=Ak r.v/\P r w')
   (R:∀r w1 w',Xb w w1->P r w1->SixAt (w.1.size+1) w1 w'->Q (Ak r.v) w'):ua 102 #[f.v] w Q:=by
 have c0:Xc w pb 0 (Y g.op):=m 0 ub;have c1:Xc w pb 1 (Y (BS g.Q)):=m 1 ub;have c2:Xc w pb 2 (I J g.H):=m 2 ub;have c3:Xc w pb 3 (C g.pa g.pn g.pc):=m 3 ub;have c4:Xc w pb 4 (C g.ta g.tn g.tc):=m 4 ub;have c5:Xc w pb 5 (C g.ra g.rn g.rc):=m 5 ub;have c6:Xc w pb 6 (Y h.op):=m 6 ub;have c7:Xc w pb 7 (Y (BS h.Q)):=m 7 ub;have c8:Xc w pb 8 (I J h.H):=m 8 ub;have c9:Xc w pb 9 (C h.pa h.pn h.pc):=m 9 ub;have ED:Xc w pb 10 (C h.ta h.tn h.tc):=m 10 ub;have EC:Xc w pb 11 (C h.ra h.rn h.rc):=m 11 ub;have np:¬pb=w.1.size:=ub;have lC:¬pb=w.1.size+1:=ub;have rU:¬w.1.size+1=pb:=ub;have Z:=qd U;have M:=qd R;simp only[RF.v]at Z M |-;rw[K,F,L,D];clear R U m K F L D;have H:Hid (Xb w ((w.alloc (Al #[Y O1,Y (BS f.Q),I J f.H,C (G ⟨pb,0,O⟩) 2 cap,C f.ta f.tn f.tc,C f.ra f.rn f.rc] 106)).alloc zoC)):=qd ((uj.alloc ui _).alloc uc _);rcases ho with⟨rfl,rfl⟩|⟨rfl,rfl⟩
 all_goals
  go_enter func102,ntmps102
  go_wp2
  go_region_held3 (λW=>Xc W w.1.size 3 (C (G ⟨pb,0,O⟩) 2 cap)/\Kx2 W pb g h) (first|with_reducible assumption|(simp only[Kx2];go_keep)) ((go_at_call 148;refine(Z _ H.drew (by show _<=((w.alloc _).alloc _).1.size;simp)).mono ?_;rintro e w1⟨B,r,rfl,hp⟩;have n:=qd (qg H.drew B);obtain⟨A,X⟩:=qk B;have r0:Xc w1 (w.1.size+1) 0 (Y ⟨#[]⟩):=(A _ 0 (by show _<((w.alloc _).alloc _).1.size;simp)).trans (by show((w.alloc _).alloc _).cell? _=_;simp[go_sem]);have r1:Xc w1 (w.1.size+1) 1 (Y ⟨#[]⟩):=(A _ 1 (by show _<((w.alloc _).alloc _).1.size;simp)).trans (by show((w.alloc _).alloc _).cell? _=_;simp[go_sem]);have r2:Xc w1 (w.1.size+1) 2 (I J 0):=(A _ 2 (by show _<((w.alloc _).alloc _).1.size;simp)).trans (by show((w.alloc _).alloc _).cell? _=_;simp[go_sem]);have r3:Xc w1 (w.1.size+1) 3 (C O 0 0):=(A _ 3 (by show _<((w.alloc _).alloc _).1.size;simp)).trans (by show((w.alloc _).alloc _).cell? _=_;simp[go_sem]);have r4:Xc w1 (w.1.size+1) 4 (C O 0 0):=(A _ 4 (by show _<((w.alloc _).alloc _).1.size;simp)).trans (by show((w.alloc _).alloc _).cell? _=_;simp[go_sem]);have r5:Xc w1 (w.1.size+1) 5 (C O 0 0):=(A _ 5 (by show _<((w.alloc _).alloc _).1.size;simp)).trans (by show((w.alloc _).alloc _).cell? _=_;simp[go_sem]);have rz:Xf w1 (w.1.size+1):=(λi=>(X _ i (by show _<((w.alloc _).alloc _).1.size;simp)).trans (by show((w.alloc _).alloc _).frozen? _=_;simp[go_sem]));have rl:w.1.size+1<w1.1.size:=(by have:=B.size;change ((w.alloc _).alloc _).1.size<=_ at this;simp at this;omega);have hS:(Xc w1 w.1.size 3 (C (G ⟨pb,0,O⟩) 2 cap)/\Kx2 w1 pb g h):=⟨(A _ 3 (by show _<((w.alloc _).alloc _).1.size;simp;omega)).trans (by show((w.alloc _).alloc _).cell? _=_;simp[go_sem]),(n.cell (p:=⟨pb,0,O⟩) u).trans c0,(n.cell (p:=⟨pb,1,O⟩) u).trans c1,(n.cell (p:=⟨pb,2,O⟩) u).trans c2,(n.cell (p:=⟨pb,3,O⟩) u).trans c3,(n.cell (p:=⟨pb,4,O⟩) u).trans c4,(n.cell (p:=⟨pb,5,O⟩) u).trans c5,(n.cell (p:=⟨pb,6,O⟩) u).trans c6,(n.cell (p:=⟨pb,7,O⟩) u).trans c7,(n.cell (p:=⟨pb,8,O⟩) u).trans c8,(n.cell (p:=⟨pb,9,O⟩) u).trans c9,(n.cell (p:=⟨pb,10,O⟩) u).trans ED,(n.cell (p:=⟨pb,11,O⟩) u).trans EC⟩;have bB:=qd hp;clear B A X hp))
  go_wp2
  refine bj (by simp[go_sem,r0,r1,r2,r3,r4,r5]<;>rfl) rfl ?_;exact q9 M r w1 _ n bB (yY _ _ _ _ _ _ _ _)
theorem qjs(Z:(O1=⟨#[84,82,85,69]⟩/\O2=⟨#[70,65,76,83,69]⟩)\/(O1=⟨#[70,65,76,83,69]⟩/\O2=⟨#[84,82,85,69]⟩))(A:f.op=O1)
   (F:∀W,Xb w W->w.1.size+1+1<=W.1.size->ua 145 #[Y O2,Y O2,I J 1,I J 0] W λe w'=>Xb W w'/\∃r:RF,e=Ak r.v/\P r w')
   (D:∀r w1 w',Xb w w1->P r w1->SixAt (w.1.size+1) w1 w'->Q (Ak r.v) w'):ua 102 #[f.v] w Q:=by
 have H:=qd F;have B:=qd D;simp only[RF.v]at H B |-;rw[A];clear D F A;have u:Hid (Xb w ((w.alloc (Al #[Y O1,Y (BS f.Q),I J f.H,C f.pa f.pn f.pc,C f.ta f.tn f.tc,C f.ra f.rn f.rc] 106)).alloc zoC)):=qd ((uj.alloc ui _).alloc uc _);rcases Z with⟨rfl,rfl⟩|⟨rfl,rfl⟩
 all_goals
  go_enter func102,ntmps102
  go_wp2_with(go_at_call 145;refine(H _ u uc).mono ?_;rintro e w1⟨n,r,rfl,hp⟩;have D6:=qd (qg u n);obtain⟨m,G⟩:=qk n;have X:Xc w1 (w.1.size+1) 0 (Y ⟨#[]⟩):=(m _ 0 uc).trans (by simp[go_sem]);have U:Xc w1 (w.1.size+1) 1 (Y ⟨#[]⟩):=(m _ 1 uc).trans (by simp[go_sem]);have R:Xc w1 (w.1.size+1) 2 (I J 0):=(m _ 2 uc).trans (by simp[go_sem]);have M:Xc w1 (w.1.size+1) 3 (C O 0 0):=(m _ 3 uc).trans (by simp[go_sem]);have L:Xc w1 (w.1.size+1) 4 (C O 0 0):=(m _ 4 uc).trans (by simp[go_sem]);have K:Xc w1 (w.1.size+1) 5 (C O 0 0):=(m _ 5 uc).trans (by simp[go_sem]);have rz:Xf w1 (w.1.size+1):=(λi=>(G _ i uc).trans (by simp[go_sem]));have rl:w.1.size+1<w1.1.size:=(by have:=n.size;simp at this;omega);have bB:=qd hp;clear n m G hp)
  refine bj (by simp[go_sem,X,U,R,M,L,K]<;>rfl) rfl ?_;exact q9 B r w1 _ D6 bB (yY _ _ _ _ _ _ _ _)
def Tb(c:Co):Prop:=opC c=0\/qmk (opC c)=1
def WT:Co->Prop
 | .leaf p=>0<=p.op/\p.op<=4
 | .un p x=>(p.op=5\/p.op=22\/p.op=23)/\(p.op=5->Tb x)/\WT x
 | .bin p x y=>vF p.op/\(p.op=6\/p.op=7->Tb x/\Tb y)/\WT x/\WT y
theorem WT.wf:∀{c:Co},WT c->WfC c
 | .leaf p,h=>by
  obtain⟨op,a,b,d⟩:=p;have n:0<=op:=h.1;have m:op<=4:=h.2;show js op=true;rcases(show op=0\/op=1\/op=2\/op=3\/op=4 by omega) with rfl|rfl|rfl|rfl|rfl<;>rfl
 | .un p x,h=>by
  obtain⟨op,a,b,d⟩:=p;refine⟨?_,WT.wf h.2.2⟩;show unB op=true;rcases h.1 with e|e|e<;>(simp only at e;subst e;rfl)
 | .bin p x y,h=>by
  obtain⟨op,a,b,d⟩:=p;refine⟨?_,WT.wf h.2.2.1,WT.wf h.2.2.2⟩;show qrz op=true;rcases h.1 with e|e|e|e|e|e|e|e|e<;>(simp only at e;subst e;rfl)
theorem gV(o:Int)(x y:Co):(qF (qp o x y)).length=(qF x).length+(qF y).length+1:=by
 unfold qp
 split<;>simp[qF]<;>omega
theorem vau:∀c,(qF (vg c)).length<=(qF c).length+uC c:=by
 intro c
 induction c with
 | leaf p=>unfold vg;split<;>(try split)<;>simp[qF,uC]
 | un p x ih=>
  have:=qrj x;unfold vg
  split
  simp[qF,uC];omega;simp[qF,uC];omega
 | bin p x y ihx ihy=>
  have m:=qrj x;have e:=qrj y;unfold vg
  by_cases h6:(p.op==6)=true
  rw[bo h6,gV];simp[qF,uC,h6];omega;rw[ak h6]
  by_cases h7:(p.op==7)=true
  rw[bo h7,gV];simp[qF,uC,h7];omega;rw[ak h7]
  by_cases O5:(p.op==10)=true
  rw[bo O5,gV];simp[qF];omega;rw[ak O5]
  by_cases S3:(p.op==11)=true
  rw[bo S3,gV];simp[qF];omega;rw[ak S3];simp[qF,uC,h6,h7];omega
def SzC(c:Co):Prop:=(qt c).length+7 * uC c<=400000000/\(qF c).length+uC c<=400000000
theorem SzC.big(h:SzC c):kS c:=⟨uu h.1,uu h.2⟩
theorem SzC.not(h:SzC c)(e:WT c):kS (vg c):=⟨by have:=h.1;have:=zE c e.wf;omega,by have:=h.2;have:=vau c;omega⟩
theorem xP(n:∀b,N b->b<w.1.size)(m:Xb w w1)(hp:RfAt (λb=>N b\/w.1.size+1+1<=b) w1 c r)(e:SixAt (w.1.size+1) w1 w'):xI N w c (Ak r.v) w':=
 ⟨e.u _ _ ub m,r,rfl,e.rf hp (by rintro (h|h);have:=n _ h;omega;omega) (λb h _=>by rcases h with h|h<;>first|exact Am h|(right;omega))⟩
theorem pE{e:Ending}(A:w.1.size+1+1<=W.1.size)(h:xI N W c e w'):Xb W w'/\∃r:RF,e=Ak r.v/\RfAt (λb=>N b\/w.1.size+1+1<=b) w' c r:=by
 obtain⟨n,r,u,m⟩:=h;exact⟨n,r,u,m.keep (λ_ _ _=>rfl) ui (λb h _=>by rcases h with h|h<;>first|exact Am h|(right;omega))⟩
theorem qpk{o:Nat}{A e u:Ap}(h:SideAt w b o c A e u)(B:RcAt N w c A e u):∃f:RF,RfAt N w c f/\∀k,k<6->w.cell? ⟨b,o+k,O⟩=(qw f)[k]?:=by
 obtain⟨⟨a,n,k,rfl⟩,⟨C,m,l,rfl⟩,d,p,q,rfl⟩:=B.slices;exact⟨⟨_,qt c,_,a,n,k,C,m,l,d,p,q⟩,⟨rfl,rfl,rfl,B⟩,h⟩
theorem RfAt.one(h:RfAt N w (.un p x) f):∃pb g,f.pa=G ⟨pb,0,O⟩/\f.pn=1/\pb<w.1.size/\RfAt N w x g/\∀k,k<6->w.cell? ⟨pb,k,O⟩=(qw g)[k]?:=by
 obtain⟨⟨b,cap,J,H,I,e,_,F,n,m⟩,_⟩:=h.at';obtain⟨g,A,B⟩:=qpk n m;injection e with D C _;exact⟨b,g,D,C,F,A,λk u=>by have:=B k u;rwa [ee]at this⟩
theorem RfAt.two(h:RfAt N w (.bin p x y) f):∃pb g k,f.pa=G ⟨pb,0,O⟩/\f.pn=2/\pb<w.1.size/\RfAt N w x g/\RfAt N w y k/\∀i,i<12->w.cell? ⟨pb,i,O⟩=(qw g++qw k)[i]?:=by
 obtain⟨⟨b,cap,X,L,R,U,K,M,e,_,J,u,n,H,m⟩,_⟩:=h.at';obtain⟨g,B,C⟩:=qpk u n;obtain⟨k,A,I⟩:=qpk H m;injection e with F D _;refine⟨b,g,k,F,D,J,B,A,λi Y=>?_⟩
 by_cases h6:i<6
 rw[cg (by exact h6)];have:=C i h6;rwa [ee]at this;rw[da (by show 6<=i;omega)];have:=I (i - 6) ub;rwa [show 6+(i - 6)=i by omega]at this
theorem qk0(p:CP)(hp:PartsAt N w (C (G ⟨pb,0,O⟩) 1 cap) [x])(H:N pb)(D:kS x):
  ua 150 #[Y (BS (qH p.op)),Y (BS (qt (.un p x))),I J (qmk p.op),C (G ⟨pb,0,O⟩) 1 cap,I J (qf4 p:Nat)] w (xI N w (.un p x)):=by
 have:=qk1 (BS (qH p.op)) (qt (.un p x)) (qmk p.op) (qf4 p) hp uc (by have:=D.2;simp;omega);refine this.mono ?_;rintro e w'⟨m,tv,rv,rfl,L,K⟩;refine RcEnds.rf ⟨m,_,tv,rv,rfl, ?_⟩;obtain⟨b,cap',e,U,F⟩:=hp.below m;obtain⟨B,n,A,u,R⟩:=F 0 x rfl;have M:pb=b:=by injection e with e;injection e with e;injection e
 refine⟨⟨b,cap',B,n,A,e,Am (M ▸ H),U,u,R.mono (λ_ h _=>Am h)⟩, ?_, ?_⟩;have:=L.keep (N':=λb=>N b\/w.1.size<=b) (λ_ _ _=>rfl) ui (λ_ h _=>An h);simpa [qF]using this;have:=K.keep (N':=λb=>N b\/w.1.size<=b) (λ_ _ _=>rfl) ui (λ_ h _=>An h);simpa [jV]using this
def qm1(c:Co):Prop:=∀(N:Nat->Prop) (w:Ao) (f:RF),RfAt N w c f->(∀b,N b->b<w.1.size)->Calls prog 102 #[f.v] w (xI N w (vg c))
theorem vhe(n:RfAt N w c f)(A:kS c):∀W,Xb w W->w.1.size+1+1<W.1.size->(∀k,k<6->W.cell? ⟨w.1.size+1+1,k,O⟩=(qw f)[k]?) ->
   ua 150 #[Y ⟨#[78,79,84]⟩,Y (BS (qt (.un (qq 5) c))),I J 1,C (G ⟨w.1.size+1+1,0,O⟩) 1 1,I J 0] W λe w'=>Xb W w'/\∃r:RF,e=Ak r.v/\RfAt (λb=>N b\/w.1.size+1+1<=b) w' (.un (qq 5) c) r:=by
 intro W H m u;have hp:=vhs (N:=λb=>N b\/b=w.1.size+1+1) (cap:=1) ((n.below H).keep (λ_ _ _=>rfl) ui (λ_ h _=>Am h)) m u;refine(qk0 (qq 5) hp (An rfl) A).mono ?_;rintro e w'⟨D,r,F,B⟩;exact⟨D,r,F,B.keep (λ_ _ _=>rfl) ui (λb h _=>by rcases h with(h|h)|h<;>first|exact Am h|(right;omega))⟩
theorem qqf(e:RfAt N w c f):qt (.un (qq 5) c)=[40,78,79,84,32]++f.Q++[41]:=by
 rw[e.Q];rfl
theorem xi(o:Int)(u:kS c)(A:vg c=.un (qq 5) c)(H:opC c=o)(m:∀n∈[[78,79,84],[65,78,68],[79,82],[60],[60,61],[84,82,85,69],[70,65,76,83,69]],(qH o==n)=false):qm1 c:=by
 intro N w f e C;rw[A];rw[<-H]at m;have key:∀n∈[[78,79,84],[65,78,68],[79,82],[60],[60,61],[84,82,85,69],[70,65,76,83,69]],(f.op.toList==n)=false:=λn B=>by rw[e.op,qP];exact m n B
 refine qjt (Am ⟨key _ uc,key _ uc,key _ uc,key _ uc,key _ uc,key _ uc,key _ uc⟩) (by rw[e.Q];exact u.1) (qqf e) (vhe e u) ?_;intro r w1 w' G F D;exact xP C G F D
theorem pD:∀c,WT c->Tb c->SzC c->qm1 c:=by
 intro c
 induction c with
 | leaf p=>
  intro B ht m;obtain⟨op,u,st,es⟩:=p;have h1:0<=op:=B.1;have h2:op<=4:=B.2;rcases(show op=0\/op=1\/op=2\/op=3\/op=4 by omega) with rfl|rfl|rfl|rfl|rfl;exact xi 0 m.big rfl rfl ue;exact xi 1 m.big rfl rfl ue;exact xi 2 m.big rfl rfl ue;intro N w f n D;refine qjs (P:=λr w1=>RfAt (λb=>N b\/w.1.size+1+1<=b) w1 (.leaf (qq 4)) r) (Am ⟨rfl,rfl⟩) n.op ?_ (λr w1 w'=>xP D);intro W A G;exact(gj N (qq 4) W).mono λe w' h=>pE G h.rf
  intro N w f n D;refine qjs (P:=λr w1=>RfAt (λb=>N b\/w.1.size+1+1<=b) w1 (.leaf (qq 3)) r) (An ⟨rfl,rfl⟩) n.op ?_ (λr w1 w'=>xP D);intro W A G;exact(gj N (qq 3) W).mono λe w' h=>pE G h.rf
 | un p x ih=>
  intro B ht m;obtain⟨op,u,st,es⟩:=p;rcases B.1 with e|e|e;simp only at e;subst e
  by_cases i6:opC x=0
  intro N w f n D;obtain⟨pb,g,K,J,M,H,I⟩:=n.one;have L:vg (.un ⟨5,u,st,es⟩ x)=.un (qq 5) (.un ⟨5,u,st,es⟩ x):=by simp[vg,i6]
  rw[L];refine qjt (An ⟨_,_,g.H,n.op,K,J,rfl,M,I 2 ub,by rw[H.H,i6];decide⟩) (by rw[n.Q];exact m.big.1) (qqf n) (vhe n m.big) (λr w1 w'=>xP D);intro N w f n D;obtain⟨pb,g,K,J,M,H,I⟩:=n.one;have L:vg (.un ⟨5,u,st,es⟩ x)=x:=by simp[vg,i6]
  rw[L];have U4:g.H=1:=by rw[H.H];exact((B.2.1 rfl).resolve_left i6)
  refine qz1 n.op K J rfl M I U4 ?_;intro w' A;exact⟨A,g,rfl,(H.below A).keep (λ_ _ _=>rfl) ui (λ_ h _=>Am h)⟩;simp only at e;subst e;exact xi 22 m.big rfl rfl ue;simp only at e;subst e;exact xi 23 m.big rfl rfl ue
 | bin p x y ihx ihy=>
  intro B ht m;obtain⟨op,u,st,es⟩:=p
  have logic:∀C,(op=6/\C=7\/op=7/\C=6)->vg (.bin ⟨op,u,st,es⟩ x y)=qp C (vg x) (vg y)->qm1 (.bin ⟨op,u,st,es⟩ x y):=by
   intro C O L N w f n D;rw[L];obtain⟨pb,g,k,K,J,M,H,Z,I⟩:=n.two;obtain⟨tx,ty⟩:=B.2.1 (by rcases O with h|h;exact Am h.1;exact An h.1);have X:uC (.bin ⟨op,u,st,es⟩ x y)=uC x+uC y:=by rcases O with⟨h,_⟩|⟨h,_⟩<;>subst h<;>rfl
   have U:(qt (.bin ⟨op,u,st,es⟩ x y)).length=(qt x).length+(qt y).length+4+(jw op).length:=jH (p:=⟨op,u,st,es⟩) B.wf.1 x y;have R:(qF (.bin ⟨op,u,st,es⟩ x y)).length=(qF x).length+(qF y).length+1:=by simp[qF];omega
   have zx:SzC x:=⟨by have:=m.1;rw[X,U]at this;omega,by have:=m.2;rw[X,R]at this;omega⟩;have zy:SzC y:=⟨by have:=m.1;rw[X,U]at this;omega,by have:=m.2;rw[X,R]at this;omega⟩;refine qyz (O2:=BS (qH C)) (P1:=λr w1=>RfAt (λb=>N b\/w.1.size+1+1<=b) w1 (vg x) r) (P2:=λr w1=>RfAt (λb=>N b\/w.1.size+1+1<=b) w1 (vg y) r) (P3:=λr w1=>RfAt (λb=>N b\/w.1.size+1+1<=b) w1 (qp C (vg x) (vg y)) r) ?_ n.op K J rfl M I ?_ ?_ ?_ (λr w1 w'=>xP D);rcases O with⟨h,F⟩|⟨h,F⟩<;>subst h F
   exact Am ⟨rfl,rfl⟩;exact An ⟨rfl,rfl⟩;intro W A G;exact(ihx B.2.2.1 tx zx N W g (H.below A) (λb h=>aq (D b h) A.size)).mono λe w' h=>pE G h
   intro W A G;exact(ihy B.2.2.2 ty zy N W k (Z.below A) (λb h=>aq (D b h) A.size)).mono λe w' h=>pE G h
   intro W w1 w2 g1 g2 A h1 LD h2 A3 B8;have q1:RfAt (λb=>(N b\/w.1.size+1+1<=b)/\b<W.1.size) W (vg x) g1:=(h1.below (qg LD A3)).keep (λ_ _ _=>rfl) ui (λb h Y=>⟨h,Y⟩);have q2:RfAt (λb=>(N b\/w.1.size+1+1<=b)/\b<W.1.size) W (vg y) g2:=(h2.below A3).keep (λ_ _ _=>rfl) ui (λb h Y=>⟨h,Y⟩);refine(gU (by rcases O with⟨_,F⟩|⟨_,F⟩<;>subst F<;>simp[vF]) q1 q2 (zx.not B.2.2.1) (zy.not B.2.2.2) (λb h=>h.2)).mono ?_;rintro e w'⟨h3,r,e3,h4⟩;have AQ:w1.1.size<=W.1.size:=bs LD.size A3.size;exact⟨h3,r,e3,h4.keep (λ_ _ _=>rfl) ui (λb h _=>by rcases h with h|h;exact h.1;right;omega)⟩
  have less:∀C,(op=10/\C=11\/op=11/\C=10)->vg (.bin ⟨op,u,st,es⟩ x y)=qp C y x->qm1 (.bin ⟨op,u,st,es⟩ x y):=by
   intro C O L N w f n D;rw[L];obtain⟨pb,g,k,K,J,M,H,Z,I⟩:=n.two;have U:(qt (.bin ⟨op,u,st,es⟩ x y)).length=(qt x).length+(qt y).length+4+(jw op).length:=jH (p:=⟨op,u,st,es⟩) B.wf.1 x y;have R:(qF (.bin ⟨op,u,st,es⟩ x y)).length=(qF x).length+(qF y).length+1:=by simp[qF];omega
   have bx:kS x:=⟨by have:=m.1;rw[U]at this;omega,by have:=m.2;rw[R]at this;omega⟩;have by':kS y:=⟨by have:=m.1;rw[U]at this;omega,by have:=m.2;rw[R]at this;omega⟩
   refine qz0 (O2:=BS (qH C)) (P:=λr w1=>RfAt (λb=>N b\/w.1.size+1+1<=b) w1 (qp C y x) r) ?_ n.op K J rfl M I ?_ (λr w1 w'=>xP D);rcases O with⟨h,F⟩|⟨h,F⟩<;>subst h F
   exact Am ⟨rfl,rfl⟩;exact An ⟨rfl,rfl⟩;intro W A G;exact(gU (by rcases O with⟨_,F⟩|⟨_,F⟩<;>subst F<;>simp[vF]) (Z.below A) (H.below A) by' bx (λb h=>aq (D b h) A.size)).mono λe w' h=>pE G h
  rcases B.1 with e|e|e|e|e|e|e|e|e<;>(simp only at e;subst e)
  exact logic 7 (Am ⟨rfl,rfl⟩) rfl;exact logic 6 (An ⟨rfl,rfl⟩) rfl;exact xi 8 m.big rfl rfl ue;exact less 11 (Am ⟨rfl,rfl⟩) rfl;exact less 10 (An ⟨rfl,rfl⟩) rfl;exact xi 16 m.big rfl rfl ue;exact xi 17 m.big rfl rfl ue;exact xi 18 m.big rfl rfl ue;exact xi 19 m.big rfl rfl ue
section
variable {x y z:tu}
theorem qvk:Op.bytesLess x y=decide (x<y):=bytesLess_eq x y
theorem ve5(h:x<y)(k:y<z):x<z:=List.lt_trans h k
theorem qxg:¬x<x:=List.lt_irrefl x
theorem vpc:x<=y\/y<=x:=List.le_total x y
theorem vr7(h:x<=y)(k:y<=z):x<=z:=List.le_trans h k
theorem pA(h:x<=y)(k:x≠y):x<y:=by
 by_cases A1:x<y
 exact A1;exact absurd (List.le_antisymm h (List.not_lt.1 A1)) k
theorem vr6(h:x<=y)(k:y<z):x<z:=by
 by_cases e:x=y
 rw[e];exact k;exact ve5 (pA h e) k
end
theorem vmn(ts:List tu):(ts.mergeSort λx y=>decide (x<=y)).Pairwise (·<=·):=by
 have:=List.pairwise_mergeSort (le:=λx y:tu=>decide (x<=y)) (λa b c h k=>by simp only[fj]at *;exact vr7 h k) (λa b=>by simp only[ff,fj];exact vpc) ts;exact this.imp (λh=>by simpa using h)
theorem vgx{e:List tu}:∀m,m<=e.length->∀j,j<m->e.toArray[j]!∈Lib.compactUpTo e.toArray m:=by
 intro m
 induction m with
 | zero=>intro _ j u;omega
 | succ m ih=>
  intro C j u;rw[Lib.compactUpTo_succ]
  by_cases GE:j=m
  subst GE
  by_cases hk:Lib.keeps e.toArray j=true
  rw[bo hk];exact ox _ (cu.2 rfl)
  have B:0<j:=by
   apply Decidable.byContradiction;intro B;exact hk (Lib.keeps_lt_one _ j ub)
  have A:e.toArray[j]! = e.toArray[j - 1]! := by
   apply Decidable.byContradiction;intro n;exact hk (Lib.keeps_pos n)
  rw[A];exact lp _ (ih ub (j - 1) ub);exact lp _ (ih ub j ub)
theorem qaf{x:tu}:x∈vo ts↔x∈ts:=by
 unfold vo;have m:x∈(ts.mergeSort λx y=>decide (x<=y))↔x∈ts:=List.mem_mergeSort;rw[<-m];generalize (ts.mergeSort λx y=>decide (x<=y))=zs;constructor;intro h;unfold Lib.compact Lib.compactUpTo at h;obtain⟨i,u,rfl⟩:=eg.1 h;have:=ip.1 (ou.1 u).1;simp only[List.getElem!_toArray];rw[on,ag this];exact fm _;intro h;obtain⟨j,e⟩:=dd h;have n:=(aj.1 e).1;have:=vgx zs.length ui j n;simp only[List.getElem!_toArray]at this;rw[on,e]at this;exact this
theorem qcc(ts:List tu):(vo ts).Pairwise (·<·):=by
 unfold vo Lib.compact Lib.compactUpTo;have hp:=vmn ts;generalize (ts.mergeSort λx y=>decide (x<=y))=zs at *;rw[nt];have F:((List.range zs.length).filter (Lib.keeps zs.toArray)).Pairwise (·<·):=List.Pairwise.sublist List.filter_sublist List.pairwise_lt_range;refine F.imp_of_mem ?_;intro a b I H O;obtain⟨J,L⟩:=ou.1 I;obtain⟨K,D⟩:=ou.1 H;have B:=ip.1 J;have lb:=ip.1 K;have n:∀i,i<zs.length->zs.toArray[i]! = zs[i]! := λi _=>by simp only[List.getElem!_toArray]
 have C:∀i j (A:i<zs.length) (u:j<zs.length),i<=j->zs[i]!<=zs[j]! := by
  intro i j A u M;rw[on,on,ag A,ag u]
  by_cases e:i=j
  subst e;exact List.le_refl _;exact ed.1 hp i j A u ub
 have m:zs.toArray[b]!≠zs.toArray[b - 1]! := by
  intro G;rw[Lib.keeps_neg ub G]at D;cases D
 rw[n b lb,n (b - 1) ub]at m;rw[n a B,n b lb];exact vr6 (C a (b - 1) B ub ub) (pA (C (b - 1) b ub lb ub) (λe=>m e.symm))
section
attribute [local go_sem ↓] vsj
def pi(S:List (List UInt8))(k:Nat)(t:List UInt8):Bool:=k==0||Op.bytesLess (S.getD (k - 1) []) t
def j6(ts S:List (List UInt8))(k:Nat):Nat->Int
 | 0=>-1
 | m+1=>if pi S k (ts.getD m [])&&(decide (j6 ts S k m<0)||Op.bytesLess (ts.getD m []) (ts.getD (j6 ts S k m).toNat [])) then m else j6 ts S k m
theorem qfv(ts S:List tu)(k:Nat):∀m,-1<=j6 ts S k m/\j6 ts S k m<m:=by
 intro m
 induction m with
 | zero=>exact⟨rq _,by show(-1:Int)<0;decide⟩
 | succ m ih=>
  unfold j6
  split
  exact⟨ub,ub⟩;exact⟨ih.1,ub⟩
theorem qvh(ts S:List tu)(k:Nat):∀m,m<=ts.length->(j6 ts S k m<0->∀i,i<m->pi S k (ts.getD i [])=false)/\(0<=j6 ts S k m->pi S k (ts.getD (j6 ts S k m).toNat [])=true/\∀i,i<m->pi S k (ts.getD i [])=true->¬ts.getD i []<ts.getD (j6 ts S k m).toNat []):=by
 intro m
 induction m with
 | zero=>intro _;exact⟨λ_ i n=>absurd n ub,λh=>by simp[j6]at h⟩
 | succ m ih=>
  intro D;obtain⟨u,A⟩:=ih ub;have C:=qfv ts S k m;unfold j6
  by_cases hc:(pi S k (ts.getD m [])&&(decide (j6 ts S k m<0)||Op.bytesLess (ts.getD m []) (ts.getD (j6 ts S k m).toNat [])))=true
  rw[bo hc];rw[dh,ff,fj]at hc;refine⟨λh=>absurd h ub,λ_=>?_⟩;simp only[Int.toNat_natCast];refine⟨hc.1,λi n e=>?_⟩
  by_cases him:i=m
  subst him;exact qxg;rcases hc.2 with h|h;rw[u h i ub]at e;cases e;rw[qvk,fj]at h
  by_cases hb:j6 ts S k m<0
  rw[u hb i ub]at e;cases e;intro B;exact(A ub).2 i ub e (ve5 B h);rw[ak hc];rw[dh,ff,fj]at hc;refine⟨λh i n=>?_,λh=>⟨(A h).1,λi n e=>?_⟩⟩
  by_cases him:i=m
  subst him
  cases e:pi S k (ts.getD i []) with
  | false=>rfl
  | true=>exact absurd ⟨e,Am h⟩ hc
  exact u h i ub
  by_cases him:i=m
  subst him;intro B;exact hc ⟨e,An (by rw[qvk,fj];exact B)⟩;exact(A h).2 i ub e
theorem qgd(h:i<ts.length):ts.getD i []∈ts:=by
 rw[bi,ag h];exact fm _
theorem qgo{x:tu}(h:x∈ts):∃i,i<ts.length/\ts.getD i []=x:=by
 obtain⟨i,e⟩:=dd h;exact⟨i,(aj.1 e).1,by rw[bi,e];rfl⟩
theorem vm9{S:List tu}(h:S.Pairwise (·<·)){j:Nat}(e:j<S.length)(m:i<j):S.getD i []<S.getD j []:=by
 rw[bi,bi,ag ub,ag e];exact ed.1 h i j ub e m
theorem qgj{S:List tu}(h:S.Pairwise (·<·))(u:k<=S.length)(n:i<S.length):pi S k (S.getD i [])=decide (k<=i):=by
 unfold pi
 by_cases h0:k=0
 subst h0;simp;rw[show(k==0)=false by simpa using h0,mx,qvk]
 by_cases hki:k<=i
 rw[di (vm9 h n ub),di hki];rw[db hki,db];intro m
 by_cases e:i=k - 1
 subst e;exact qxg m;exact qxg (ve5 m (vm9 h ub ub))
theorem qvj(u:k<=(vo ts).length)(h:j6 ts (vo ts) k ts.length<0):k=(vo ts).length:=by
 apply Decidable.byContradiction;intro m;have n:=qaf.1 (qgd (ts:=vo ts) (i:=k) ub);obtain⟨i,A,e⟩:=qgo n;have:=(qvh ts (vo ts) k ts.length ui).1 h i A;rw[e,qgj (qcc ts) u ub]at this;simp at this
theorem qvi(u:k<=(vo ts).length)(h:0<=j6 ts (vo ts) k ts.length):k<(vo ts).length/\ts.getD (j6 ts (vo ts) k ts.length).toNat []=(vo ts).getD k []:=by
 have I:=qfv ts (vo ts) k ts.length;obtain⟨n,C⟩:=(qvh ts (vo ts) k ts.length ui).2 h;obtain⟨b,H⟩:=it ((j6 ts (vo ts) k ts.length).toNat);rw[H]at n C |-;have F:=qaf.2 (qgd (ts:=ts) (i:=b) ub);obtain⟨i,A,e⟩:=qgo F;rw[<-e,qgj (qcc ts) u A,fj]at n;have m:k<(vo ts).length:=ub;refine⟨m, ?_⟩
 by_cases hik:i=k
 rw[<-e,hik];have D:=qaf.1 (qgd (ts:=vo ts) (i:=k) m);obtain⟨j,G,B⟩:=qgo D;have:=C j G (by rw[B,qgj (qcc ts) u m,fj];exact ui);rw[B,<-e]at this;exact absurd (vm9 (qcc ts) A ub) this
theorem qww(a b:tu):(!(Op.bytesLess a b||a==b))=Op.bytesLess b a:=by
 rw[qvk,qvk]
 by_cases h:b<a
 rw[di h];have n:¬a<b:=λk=>qxg (ve5 h k)
 have m:(a==b)=false:=bh.2 (λe=>qxg (e ▸ h));rw[db n,m];rfl;rw[db h]
 by_cases e:a=b
 subst e;simp;have:a<b:=pA (List.not_lt.1 h) e;rw[di this];rfl
def vi1:Ap->Nat
 | C _ n _=>n
 | _=>0
structure SelAt(w:Ao)(f:RF)(W:Ao)(lv:Ap)(l:List (List UInt8)):Prop where
 row:TwRow W (w.1.size+1+1) lv l
 u:Below (w.1.size+1+1) ((w.alloc (Al #[Y f.op,Y (BS f.Q),I J f.H,C f.pa f.pn f.pc,C f.ta f.tn f.tc,C f.ra f.rn f.rc] 106)).alloc zoC) W
section
variable {w W:Ao} {f:RF} {lv:Ap} {l:List tu}
theorem SelAt.drewN(h:SelAt w f W lv l)(k:Nat):SelAt w f (W.drewN k) lv l:=⟨h.row,ep h.u _⟩
theorem SelAt.bel0(h:SelAt w f W lv l):Xb w W:=((uj.alloc ui _).alloc uc _).trans (h.u.mono ub)
theorem SelAt.size(h:SelAt w f W lv l):w.1.size+1+1<=W.1.size:=by have:=h.u.size;simpa using this
theorem TwRow.cell(h:TwRow w base v ts)(m:ts[k]?=G t):∃g cap,v=C (G ⟨g,0,O⟩) ts.length cap/\base<=g/\g<w.1.size/\w.cell? ⟨g,k,O⟩=G (Y (BS t)):=by
 obtain⟨g,cap,e,A,u,n⟩:=h.txt (by intro e;rw[e]at m;cases m);exact⟨g,cap,e,A,u,n k t m⟩
theorem TwRow.app1(h:TwRow W base v ts)(D:base<=W.1.size)(x:tu)(R:ts.length<=1000000)(H:Nat)(F:W.1.size=H):
  ∃g cap e,(qe9 #[31,31] 31 #[v,C (G ⟨H,0,O⟩) 1 1]).run prog (W.alloc (Al #[Y (BS x)] 9))=.ok (C (G ⟨g,0,O⟩) (ts.length+1) cap) e /\
   Hid (TwRow e base (C (G ⟨g,0,O⟩) (ts.length+1) cap) (ts++[x]))/\Hid (Below base W e):=by
 subst F;obtain⟨n,B,I,K,J⟩:=info_parts qcy;have m:=World.ownsRow.alloc h (Al #[Y (BS x)] 9);obtain⟨g,cap,e,u,L,M,U,_⟩:=run_append_lies (P:=prog) (W.alloc (Al #[Y (BS x)] 9)) 31 31 base 9 n _ 1 16 underlying31 B I K J rfl ub v ts.length _ m
  ⟨W.1.size,0,O⟩ 1 1 [Y (BS x)] rfl (World.news_of_block (cs:=#[Y (BS x)]) (t:=9) (fr:=(0,0)) (heap_alloc_new W _)) (by simp[Value.oneCell']) ub (by unfold maxLen;omega) ub ud _ rfl
 refine⟨g,cap,e,u,qd ?_,qd ?_⟩
 .show World.ownsRow _ _ _ _ _ _ _
  rw[ce,du,qx,dq];exact L
 exact Go.RowKit.Below.grown (((Below.refl base W).alloc D _)) M ud (λk A=>(m.lt k A).1)
end
end
def TwC(N:Nat->Prop)(W:Ao)(S:ByteArray)(f g:RF)(c:Co):Prop:=Calls prog 148 #[Y S,Ai #[Y f.op,Y (BS f.Q),I J f.H,C f.pa f.pn f.pc,C f.ta f.tn f.tc,C f.ra f.rn f.rc],Ai #[Y g.op,Y (BS g.Q),I J g.H,C g.pa g.pn g.pc,C g.ta g.tn g.tc,C g.ra g.rn g.rc]] W λe w'=>Below W.1.size W w'/\∃r:RF,e=Ak (Ai #[Y r.op,Y (BS r.Q),I J r.H,C r.pa r.pn r.pc,C r.ta r.tn r.tc,C r.ra r.rn r.rc])/\RfAt N w' c r
theorem ex6{a b c f g:Ap}(C:Xc W q 0 a)(B:Xc W q 1 b)(A:Xc W q 2 c)(u:Xc W q 3 d)(n:Xc W q 4 f)(m:Xc W q 5 g)(k:Nat)(e:k<6):∃v,Xc W q k v:=by
 match k,e with|0,_=>exact⟨_,C⟩|1,_=>exact⟨_,B⟩|2,_=>exact⟨_,A⟩|3,_=>exact⟨_,u⟩|4,_=>exact⟨_,n⟩|5,_=>exact⟨_,m⟩
structure OutAt(N:Nat->Prop)(w1 wr:Ao)(ob:Nat)(c:Co)(r:RF):Prop where
 u:Below w1.1.size w1 wr
 ge:w1.1.size<=ob
 lt:ob<wr.1.size
 cells:∀k,k<6->wr.cell? ⟨ob,k,O⟩=(qw r)[k]?
 fz:∀i,wr.frozen? ⟨ob,i,O⟩=false
 rf:RfAt (λb=>N b\/(w1.1.size<=b/\b≠ob)) wr c r
section
variable {N:Nat->Prop} {w1 wr w':Ao} {ob:Nat} {c d:Co} {r s:RF}
theorem OutAt.below(h:OutAt N w1 wr ob c r)(e:Xb wr w'):OutAt N w1 w' ob c r:=
 ⟨qg h.u e,h.ge,aq h.lt e.size,λk m=>((qk e).1 _ _ h.lt).trans (h.cells k m),λi=>((qk e).2 _ _ h.lt).trans (h.fz i),h.rf.below e⟩
theorem OutAt.new(e:Xb w1 wr)(u:RfAt (λb=>N b\/w1.1.size<=b) wr c r):
  OutAt N w1 (wr.alloc (Al #[Y r.op,Y (BS r.Q),I J r.H,C r.pa r.pn r.pc,C r.ta r.tn r.tc,C r.ra r.rn r.rc] 106)) wr.1.size c r:=by
 have n:Xb wr (wr.alloc (Al #[Y r.op,Y (BS r.Q),I J r.H,C r.pa r.pn r.pc,C r.ta r.tn r.tc,C r.ra r.rn r.rc] 106)):=uj.alloc ui _;refine⟨e.alloc e.size _,e.size,uc,λk A=>?_,λi=>uc, ?_⟩;rw[ch _ _ _ _ rfl]
 match k,A with
 | 0,_=>rfl
 | 1,_=>rfl
 | 2,_=>rfl
 | 3,_=>rfl
 | 4,_=>rfl
 | 5,_=>rfl
 exact u.keep (λb _ m=>n.block b m) n.size (λb h m=>by
  rcases h with h|h;exact Am h
  exact An ⟨h,ub⟩)
theorem vad{a b c d f g:Ap}(B:∃v,Xc W q 0 v)(A:∃v,Xc W q 1 v)(u:∃v,Xc W q 2 v)(n:∃v,Xc W q 3 v)(m:∃v,Xc W q 4 v)(e:∃v,Xc W q 5 v):
  ∀k,k<6->((((((W.setCell ⟨q,0,O⟩ a).setCell ⟨q,1,O⟩ b).setCell ⟨q,2,O⟩ c).setCell ⟨q,3,O⟩ d).setCell ⟨q,4,O⟩ f).setCell ⟨q,5,O⟩ g).cell? ⟨q,k,O⟩=[a,b,c,d,f,g][k]?:=by
 obtain⟨J,B⟩:=B;obtain⟨I,A⟩:=A;obtain⟨H,u⟩:=u;obtain⟨G,n⟩:=n;obtain⟨F,m⟩:=m;obtain⟨D,e⟩:=e;intro k C
 match k,C with
 | 0,_=>simp[go_sem,B]
 | 1,_=>simp[go_sem,A]
 | 2,_=>simp[go_sem,u]
 | 3,_=>simp[go_sem,n]
 | 4,_=>simp[go_sem,m]
 | 5,_=>simp[go_sem,e]
theorem OutAt.put(B:Xb w1 wr)(n:w1.1.size<=ob)(lt:ob<wr.1.size)(D:∀b,N b->b<w1.1.size)(e:∀k,k<6->∃v,Xc wr ob k v)(A:Xf wr ob)(u:RfAt (λb=>N b\/(w1.1.size<=b/\b≠ob)) wr d s):
  OutAt N w1 ((((((wr.setCell ⟨ob,0,O⟩ (Y s.op)).setCell ⟨ob,1,O⟩ (Y (BS s.Q))).setCell ⟨ob,2,O⟩ (I J s.H)).setCell ⟨ob,3,O⟩ (C s.pa s.pn s.pc)).setCell ⟨ob,4,O⟩ (C s.ta s.tn s.tc)).setCell ⟨ob,5,O⟩ (C s.ra s.rn s.rc)) ob d s:=by
 have m:=yY wr ob (Y s.op) (Y (BS s.Q)) (I J s.H) (C s.pa s.pn s.pc) (C s.ta s.tn s.tc) (C s.ra s.rn s.rc);refine⟨m.u _ _ n B,n,by rw[m.size];exact lt,vad (e 0 ub) (e 1 ub) (e 2 ub) (e 3 ub) (e 4 ub) (e 5 ub),λi=>?_,m.rf u (by rintro (h|h);have:=D _ h;omega;exact h.2 rfl) (λ_ h _=>h)⟩;simp[go_sem,A i]
end
theorem qko(D:vF o)(F:Xb w1 W)(C:RfAt (λb=>N b\/(w1.1.size<=b/\b≠ob)) W x f)(B:RfAt (λb=>N b\/(w1.1.size<=b/\b≠ob)) W y g)(L:ob<W.1.size)(J:kS x)(n:kS y):
  ua 148 #[Y (BS (qH o)),f.v,g.v] W λe w'=>Xb W w'/\∃r:RF,e=Ak r.v/\RfAt (λb=>N b\/(w1.1.size<=b/\b≠ob)) w' (qp o x y) r:=by
 have K:=F.size;have A:RfAt (λb=>(N b\/(w1.1.size<=b/\b≠ob))/\b<W.1.size) W x f:=C.keep (λ_ _ _=>rfl) ui (λb h m=>⟨h,m⟩);have u:RfAt (λb=>(N b\/(w1.1.size<=b/\b≠ob))/\b<W.1.size) W y g:=B.keep (λ_ _ _=>rfl) ui (λb h m=>⟨h,m⟩);refine(gU D A u J n (λb h=>h.2)).mono ?_;rintro e w'⟨H,r,I,G⟩
 exact⟨H,r,I,G.keep (λ_ _ _=>rfl) ui (λb h _=>by
  rcases h with h|h;exact h.1
  exact An ⟨ub,ub⟩)⟩
theorem vb5(D:vF o)(F:Xb w1 W)(C:RfAt (λb=>N b\/w1.1.size<=b) W x f)(B:RfAt (λb=>N b\/w1.1.size<=b) W y g)(J:kS x)(n:kS y):
  ua 148 #[Y (BS (qH o)),f.v,g.v] W λe w'=>Xb W w'/\∃r:RF,e=Ak r.v/\RfAt (λb=>N b\/w1.1.size<=b) w' (qp o x y) r:=by
 have K:=F.size;have A:RfAt (λb=>(N b\/w1.1.size<=b)/\b<W.1.size) W x f:=C.keep (λ_ _ _=>rfl) ui (λb h m=>⟨h,m⟩);have u:RfAt (λb=>(N b\/w1.1.size<=b)/\b<W.1.size) W y g:=B.keep (λ_ _ _=>rfl) ui (λb h m=>⟨h,m⟩);refine(gU D A u J n (λb h=>h.2)).mono ?_;rintro e w'⟨H,r,I,G⟩
 exact⟨H,r,I,G.keep (λ_ _ _=>rfl) ui (λb h _=>by
  rcases h with h|h;exact h.1
  exact An ub)⟩
theorem qr4{w2:Ao}(h:RfAt (λb=>N b\/w1.1.size<=b) w2 c g)(o:Obj):RfAt (λb=>N b\/(w1.1.size<=b/\b≠w2.1.size)) (w2.alloc o) c g:=
 h.keep (λb _ e=>((Below.refl w2.1.size w2).alloc ui o).block b e) uc (λb h e=>by
  rcases h with h|h
  .exact Am h
  .exact An ⟨h,ub⟩)
theorem veu(x:Co):∀(r:List tu) (f:Co) (t:tu),za x f (r++[t])=qp 7 (za x f r) (qp 8 x (vi t)):=by
 intro r
 induction r with
 | nil=>intro f t;rfl
 | cons u r ih=>intro f t;rw[dk,za,za,ih]
def amK(x:Co)(S:List (List UInt8))(i:Nat):Co:=za x (qp 8 x (vi (S.getD 0 []))) ((S.drop 1).take (i - 1))
theorem vc0{S:List tu}(m:1<=i)(e:S[i]?=G t):amK x S (i+1)=qp 7 (amK x S i) (qp 8 x (vi t)):=by
 unfold amK;rw[<-veu]
 congr 1
 obtain⟨j,rfl⟩:∃j,i=j+1:=⟨i - 1,ub⟩;rw[Nat.add_sub_cancel,Nat.add_sub_cancel,dn,io,Nat.add_comm 1 j,e];rfl
theorem viq(e:vo ts≠[]):amK x (vo ts) (vo ts).length=vI x ts:=by
 unfold amK vI
 cases h:vo ts with
 | nil=>exact absurd h e
 | cons t r=>simp
structure ZeroVar(w:Ao)(q:Nat):Prop where
 c0:w.cell? ⟨q,0,O⟩=G (Y ⟨#[]⟩)
 c1:w.cell? ⟨q,1,O⟩=G (Y ⟨#[]⟩)
 c2:w.cell? ⟨q,2,O⟩=G (I J 0)
 c3:w.cell? ⟨q,3,O⟩=G (C O 0 0)
 c4:w.cell? ⟨q,4,O⟩=G (C O 0 0)
 c5:w.cell? ⟨q,5,O⟩=G (C O 0 0)
 fz:∀i,w.frozen? ⟨q,i,O⟩=false
 lt:q<w.1.size
theorem ZeroVar.below(h:ZeroVar w q)(e:Xb w w'):ZeroVar w' q:=
 ⟨((qk e).1 _ _ h.lt).trans h.c0,((qk e).1 _ _ h.lt).trans h.c1,((qk e).1 _ _ h.lt).trans h.c2,((qk e).1 _ _ h.lt).trans h.c3,((qk e).1 _ _ h.lt).trans h.c4,((qk e).1 _ _ h.lt).trans h.c5,λi=>((qk e).2 _ i h.lt).trans (h.fz i),aq h.lt e.size⟩
theorem ZeroVar.drew(h:ZeroVar w q):ZeroVar w.drew q:=⟨h.c0,h.c1,h.c2,h.c3,h.c4,h.c5,h.fz,h.lt⟩
theorem yE(B:Ao):ZeroVar (B.alloc zoC) B.1.size:=⟨uc,uc,uc,uc,uc,uc,λi=>uc,uc⟩
theorem ky(h:RfAt N W c f)(e:∀b,N b->b<W.1.size->N' b):RfAt N' W c f:=h.keep (λ_ _ _=>rfl) ui e
section
attribute [local go_sem ↓] vsj
theorem qtr{la:Option Addr}{lc:Nat}(hx:RfAt N w x f)(hN:∀b,N b->b<w.1.size)(lG:TxtAt w (C la ts.length lc) ts)(hne:ts≠[])(A7:ts.length<=1000)(M6:∀t∈ts,t.length<=1000)(bx:kS x)(A0:∀t∈ts,kS (vi t))(K:∀t∈ts,kS (qp 8 x (vi t)))(F:∀i,1<=i->i<=(vo ts).length->kS (amK x (vo ts) i)):
  ua 149 #[f.v,C la ts.length lc] w (xI N w (vI x ts)):=by
 obtain⟨S,hS⟩:=it (vo ts);obtain⟨n,hn⟩:=it ts.length
 have hSl:S.length<=n:=by
  rw[<-hS,<-hn];exact qag ts
 have XF:Hid (∀k t,ts[k]?=G t->∃lb,la=G ⟨lb,0,O⟩/\lb<w.1.size/\Xc w lb k (Y (BS t))):=qd (by
  obtain⟨a,c,e,h⟩:=lG;injection e with e1 _ _;subst e1
  exact h)
 have HN:=qd hn;have HS:=qd hS;have HX:=qd hx;rw[hn]at A7 |-;have M0:Hid (SelAt w f ((w.alloc (Al #[Y f.op,Y (BS f.Q),I J f.H,C f.pa f.pn f.pc,C f.ta f.tn f.tc,C f.ra f.rn f.rc] 106)).alloc zoC) (C O 0 0) (S.take 0)):=qd ⟨dy _ _ _ _,uj⟩;simp only[RF.v];go_enter func149,ntmps149
 go_upto_block 0 with fail
 go_cut [5] (λs5 wx=>∃a c,s5=C a S.length c/\Hid (SelAt w f wx (C a S.length c) S))
 case first=>
  go_wp2
  go_loopw [5] (λlv wr=>∃(k:Nat) (a:Option Addr) (c:Nat),k<=S.length/\lv=C a k c/\Hid (SelAt w f wr (C a k c) (S.take k))) (λlv _=>n - vi1 lv)
  exact⟨0,O,0,bt _,rfl,M0⟩;obtain⟨k,a,c,hk,rfl,U⟩:=hrel
  by_cases Z0:k<n
  .have CA:=uo k n
   go_wp2
   obtain⟨wo,rfl⟩:=uk (wr:Ao)
   go_loopw [6,7] (λb i wq=>∃m:Nat,m<=n/\i=I J m/\b=I J (j6 ts S k m)/\Hid (SelAt w f wq (C a k c) (S.take k))) (λ_ i _=>n - (intOf i).toNat)
   exact⟨0,bt _,rfl,rfl,U⟩;obtain⟨m,hm,rfl,rfl,U⟩:=hrel;have X:=qfv ts S k m;have G0:=(q9 U).bel0
   by_cases OM:m<n
   .obtain⟨t,ht⟩:∃t,ts[m]?=G t:=⟨_,ag (uu (q9 HN))⟩
    obtain⟨lb,rfl,O0,oD⟩:=q9 XF m t ht;have htg:ts.getD m []=t:=by rw[bi,ht];rfl
    have tl:Xc wr lb m (Y (BS t)):=((qk G0).1 _ _ O0).trans oD;obtain⟨B,hB⟩:=it (j6 ts S k m);obtain⟨L,hL⟩:=it (pi S k t);have eJ:Hid (j6 ts S k (m+1)=if L&&(decide (B<0)||Op.bytesLess t (ts.getD B.toNat [])) then(m:Int) else B):=qd (by rw[j6,htg,hB,hL]);rw[hB]at X |-;have dI:=qd hL
    go_wp2
    go_cut [8] (λs8 wx=>s8=Ah L/\Hid (SelAt w f wx (C a k c) (S.take k)))
    case first=>
     by_cases T9:k=0
     .subst T9
      have hLt:L=true:=by rw[<-q9 dI];rfl
      subst hLt
      go_quiet (fail)
      go_wp2
      go_meet
      exact⟨rfl,qd (U.drewN _)⟩
     obtain⟨k',rfl⟩:∃k',k=k'+1:=⟨k - 1,ub⟩;obtain⟨u,hu⟩:∃u,S[k']?=G u:=⟨_,ag ub⟩;obtain⟨D,lcap,e,eP,KF,GB⟩:=(q9 U).row.cell (k:=k') (t:=u) (by rw[sj ub];exact hu);injection e with e1 e2 e3;subst e1
     have hLv:(!(Op.bytesLess (BS t).toList (BS u).toList||(BS t).toList==(BS u).toList))=L:=by
      rw[qP,qP,qww,<-q9 dI];unfold pi;rw[Nat.add_sub_cancel,bi,hu];simp
     have F5:(((k':Int)+1)==0)=false:=by rw[bh];omega
     have O8:=um k';have iL:(k':Int)<(k':Int)+1:=ub;clear hu e2 e3
     go_quiet (fail)
     go_wp2
     go_meet
     exact⟨by rw[<-hLv],qd (U.drewN _)⟩
    obtain⟨rfl,fH⟩:=hcut;have K:=(q9 fH).bel0;have tl2:Xc wc lb m (Y (BS t)):=((qk K).1 _ _ O0).trans ((((qk G0).1 _ _ O0).symm).trans tl);clear tl U
    cases L with
    | false=>
     go_wp2
     go_quiet (fail)
     go_wp2
     go_roundw
     case rel=>exact⟨m+1,ub,by go_num,by rw[q9 eJ];rfl,qd (fH.drewN _)⟩
     simp[intOf];omega
    | true=>
     by_cases hB:B<0
     .have wR:decide (B<0)=true:=di hB
      go_wp2
      go_quiet (fail)
      go_wp2
      go_roundw
      case rel=>exact⟨m+1,ub,by go_num,by rw[q9 eJ,wR];rfl,qd (fH.drewN _)⟩
      simp[intOf];omega
     have wR:decide (B<0)=false:=db hB;obtain⟨b,rfl⟩:∃b:Nat,B=b:=⟨B.toNat,ub⟩;obtain⟨u,hu⟩:∃u,ts[b]?=G u:=⟨_,ag (uu (q9 HN))⟩;obtain⟨lb',e,hlb',GB⟩:=q9 XF b u hu;injection e with e;injection e with e;subst e;have ul:Xc wc lb b (Y (BS u)):=((qk K).1 _ _ O0).trans GB;have VK:=um b;have iB:=uo b n
     have uH:Hid (j6 ts S k (m+1)=if Op.bytesLess t u then(m:Int) else b):=qd (by
      rw[q9 eJ,wR,Int.toNat_natCast,bi,hu];simp)
     have aT:Op.bytesLess (BS t).toList (BS u).toList=Op.bytesLess t u:=by rw[qP,qP]
     clear eJ hu GB X
     cases hq:Op.bytesLess t u with
     | false=>
      rw[hq]at aT uH
      go_wp2
      go_quiet (fail)
      go_wp2
      go_roundw
      case rel=>exact⟨m+1,ub,by go_num,by rw[q9 uH];rfl,qd (fH.drewN _)⟩
      simp[intOf];omega
     | true=>
      rw[hq]at aT uH
      go_wp2
      go_quiet (fail)
      go_wp2
      go_roundw
      case rel=>exact⟨m+1,ub,by go_num,by rw[q9 uH];rfl,qd (fH.drewN _)⟩
      simp[intOf];omega
   have FZ:m=n:=ub;have hmn':=uq m n;have U6:=q9 HN;obtain⟨B,hB⟩:=it (j6 ts S k m);have b8:j6 ts (vo ts) k ts.length=B:=by rw[q9 HS,U6,<-FZ];exact hB
   rw[hB]at X |-
   by_cases hBn:B<0
   .have CC:k=S.length:=by have:=qvj (ts:=ts) (k:=k) (by rw[q9 HS];exact hk) (by rw[b8];exact hBn);rw[this,q9 HS]
    have wR:decide (B<0)=true:=di hBn;clear hB b8
    go_wp2
    go_meet
    subst CC;exact⟨a,c,rfl,by have:=q9 U;rw[im]at this;exact qd this⟩
   have wR:decide (B<0)=false:=db hBn;obtain⟨A8,iJ⟩:=qvi (ts:=ts) (k:=k) (by rw[q9 HS];exact hk) (by rw[b8];omega);rw[b8,q9 HS]at iJ;rw[q9 HS]at A8;obtain⟨b,rfl⟩:∃b:Nat,B=b:=⟨B.toNat,ub⟩;obtain⟨u,hu⟩:∃u,ts[b]?=G u:=⟨_,ag ub⟩;obtain⟨lb,rfl,O0,GB⟩:=q9 XF b u hu;have ul:Xc wr lb b (Y (BS u)):=((qk G0).1 _ _ O0).trans GB;have VK:=um b;have iB:=uo b n
   have GK:S.take (k+1)=S.take k++[u]:=by
    rw[dn,ag A8];rw[Int.toNat_natCast,bi,hu,bi,ag A8]at iJ;rw[<-show u=S[k] from iJ];rfl
   have V3:(S.take k).length=k:=by rw[cw];omega
   obtain⟨g5,I9,w5,O3,aJ,T5⟩:=(q9 U).row.app1 U.size u ub wr.1.size rfl;rw[<-GK,V3]at aJ;rw[V3]at O3;have nA:Hid (SelAt w f w5 (C (G ⟨g5,0,O⟩) (k+1) I9) (S.take (k+1))):=qd ⟨q9 aJ,U.u.trans T5⟩;clear hB b8 iJ hu GB GK V3 aJ T5
   go_wp2
   go_roundw
   exact⟨k+1,_,_,ub,rfl,nA⟩;simp[vi1];omega
  have CA:=uq k n;have CC:k=S.length:=ub
  go_wp2
  go_meet
  subst CC;exact⟨a,c,rfl,by have:=q9 U;rw[im]at this;exact qd this⟩
 obtain⟨a,c,rfl,U⟩:=hcut;obtain⟨w1,rfl⟩:=uk (wc:Ao);have LL:S≠[]:=by rw[<-q9 HS];exact qcb hne
 have PJ:0<S.length:=List.length_pos_iff.2 LL;obtain⟨M,AX⟩:∃t,S[0]?=G t:=⟨_,ag PJ⟩;obtain⟨D,lcap,e,eP,KF,UD⟩:=(q9 U).row.cell (k:=0) AX;injection e with e1 _ _;subst e1;have B8:=(q9 U).size;have F4:=(q9 U).u
 have XK:Kx1 w1 w.1.size f:=by
  refine⟨?_, ?_, ?_, ?_, ?_, ?_⟩
  all_goals exact(F4.cell (p:=⟨w.1.size,_,O⟩) (by show w.1.size<w.1.size+1+1;omega)).trans (by simp[go_sem])
 obtain⟨X0,X1,X2,X3,X4,X5⟩:=XK;obtain⟨Q0,Q1,Q2,Q3,Q4,Q5,QZ,-⟩:ZeroVar w1 (w.1.size+1):=by have:=(yE (w.alloc _)).below (F4.mono uc);simpa using this
 have tT:=(q9 U).bel0
 have MS:Hid (∀t∈S,t.length<=1000/\kS (vi t)/\kS (qp 8 x (vi t))):=qd λt ht=>by
  have hm:=qaf.1 (show t∈vo ts by rw[q9 HS];exact ht);exact⟨M6 t hm,A0 t hm,K t hm⟩
 have EO:=qd U.row;have YR:=qd tT;have MN:Hid (∀W,Xb w1 W->RfAt N W x f):=qd λW hb=>(HX.below tT).below hb
 have uI:Hid (∀b,N b->b<w1.1.size):=qd λb h=>aq (hN b h) tT.size
 have KXg:Hid (∀b W,Xb w1 b->Xb b W->∀(i:Nat) (t:tu),Xc w1 D i (Y (BS t))->(Kt1 W w.1.size f (Xc W D i (Y (BS t))))):=qd λb W R h2 i t hl=>by
  have hh:=qg R h2;refine⟨?_, ?_, ?_, ?_, ?_, ?_, ?_⟩;exact((qk hh).1 _ _ ub).trans X0;exact((qk hh).1 _ _ ub).trans X1;exact((qk hh).1 _ _ ub).trans X2;exact((qk hh).1 _ _ ub).trans X3;exact((qk hh).1 _ _ ub).trans X4;exact((qk hh).1 _ _ ub).trans X5;exact((qk hh).1 _ _ KF).trans hl
 have LFg:Hid (∀(t:tu) (W:Ao),ua 145 #[Y ⟨#[116,101,120,116]⟩,Y (BS (qL t)),I J 3,I J ((BS t).size:Int)] W λe w'=>Xb W w'/\∃r:RF,e=Ak (Ai #[Y r.op,Y (BS r.Q),I J r.H,C r.pa r.pn r.pc,C r.ta r.tn r.tc,C r.ra r.rn r.rc])/\RfAt (λb=>N b\/W.1.size<=b) w' (vi t) r):=qd λt W=>(gj N ⟨2,0,t,[]⟩ W).mono λe w' h=>h.rf
 have QTg:Hid (∀(t:tu),t.length<=1000->∀W,ua 147 #[Y (BS t)] W λe w'=>e=Ak (Y (BS (qL t)))/\w'=W):=qd λt ht W=>ya (BS t) ht W
 have nY:M∈S:=bg AX;obtain⟨QB,tZ⟩:∃q,BS (qL M)=q:=⟨_,rfl⟩;have LF:=qd (LFg M);have QT:=qd (QTg M ((MS M nY).1));have BT:=qd ((MS M nY).2.1);have KX:Hid (∀W,Xb w1 W->(Kt1 W w.1.size f (Xc W D 0 (Y (BS M))))):=qd λW hb=>q9 KXg w1 W uj hb 0 M UD
 have EJ:=MN;have fG:=uI;rw[tZ]at LF QT;have hSl0:=ur S.length;have HT0:Hid (amK x S 1=qp 8 x (vi M)):=qd (by unfold amK;rw[ld,List.take_zero,bi,AX];rfl);clear F4 tT AX nY tZ U
 go_upto_region 13 with(go_at_call 147;refine be (QT _) λwq hq=>?_;subst wq)
 go_cut [10] (λs10 wx=>∃ob r,s10=Ag (G ⟨ob,0,O⟩)/\Hid (OutAt N w1 wx ob (qp 8 x (vi M)) r))
 case first=>
  have TY:D<w1.1.size:=ub;have OC:¬w.1.size=w1.1.size:=ub;have OB:¬w1.1.size=w.1.size:=ub;have na3:¬D=w1.1.size:=ub;have na4:¬w1.1.size=D:=ub;have na5:w.1.size<w1.1.size:=ub;have na6:D<w1.1.size:=ub;have TWA:Hid (∀(w2:Ao) (A:RF),Xb w1 w2->RfAt (λb=>N b\/(w1.1.size<=b/\b≠w1.1.size)) w2 (vi M) A->w1.1.size+1<=w2.1.size->TwC (λb=>N b\/(w1.1.size<=b/\b≠w1.1.size)) w2 ⟨#[61]⟩ f A (qp 8 x (vi M))):=qd λw2 A R h2 h3=>qko (o:=8) (by simp[vF]) R ((EJ w2 R).keep (λ_ _ _=>rfl) ui (λ_ h _=>Am h)) h2 ub bx BT
  have TWB:Hid (∀(w2:Ao) (A:RF),Xb w1 w2->RfAt (λb=>N b\/w1.1.size<=b) w2 (vi M) A->TwC (λb=>N b\/(w1.1.size<=b/\b≠w2.1.size)) (w2.alloc zoC) ⟨#[61]⟩ f A (qp 8 x (vi M))):=qd λw2 A R h2=>qko (o:=8) (by simp[vF]) (qg R (uj.alloc ui _)) ((EJ _ (qg R (uj.alloc ui zoC))).keep (λ_ _ _=>rfl) ui (λ_ h _=>Am h)) (qr4 h2 _) uc bx BT
  have TWC:Hid (∀(w2:Ao) (A:RF),Xb w1 w2->RfAt (λb=>N b\/w1.1.size<=b) w2 (vi M) A->TwC (λb=>N b\/w1.1.size<=b) w2 ⟨#[61]⟩ f A (qp 8 x (vi M))):=qd λw2 A R h2=>vb5 (o:=8) (by simp[vF]) R ((EJ w2 R).keep (λ_ _ _=>rfl) ui (λ_ h _=>Am h)) h2 bx BT
  go_region_held3 (λW=>Kt1 W w.1.size f (Xc W D 0 (Y (BS M)))) (first|with_reducible assumption|(simp only[Kt1];go_keep)) (first|(go_at_call 148;have _q:=NL;refine(TWA w2 A sP NL D4).mono ?_;rintro e H⟨F,r3,rfl,D8⟩;have fC:=qd D8;have Z:=qd (qg sP F);obtain⟨p0,p1,p2,p3,p4,p5,pz,P9⟩:=(q9 XP).below F;have bJ:=q9 KX H Z;clear F D8)|(go_at_call 148;have _q:=uM;refine(TWB w2 A t7 uM).mono ?_;rintro e H⟨F,r3,rfl,D8⟩;have MX:=qd D8;have Z:=qd (qg (qg t7 (uj.alloc ui _)) F);obtain⟨p0,p1,p2,p3,p4,p5,pz,P9⟩:=(yE w2).below F;have bJ:=q9 KX H Z;clear F D8)|(go_at_call 148;have _q:=uM;refine(TWC w2 A t7 uM).mono ?_;rintro e H⟨F,r3,rfl,D8⟩;have fB:=qd D8;have Z:=qd (qg t7 F);have sV:=F.size;have NZ:¬w.1.size=H.1.size:=ub;have NW:¬H.1.size=w.1.size:=ub;have nc3:¬D=H.1.size:=ub;have nc4:¬H.1.size=D:=ub;have nc5:w.1.size<H.1.size:=ub;have nc6:D<H.1.size:=ub;have bJ:=q9 KX H Z;clear F D8)|(go_at_call 145;refine(LF (w1.alloc zoC).drew).mono ?_;rintro e w2⟨K,A,rfl,K5⟩;have sP:=qd (qg ((Below.refl w1.1.size w1).alloc ui zoC).drew K);have NL:Hid (RfAt (λb=>N b\/(w1.1.size<=b/\b≠w1.1.size)) w2 (vi M) A):=qd (K5.keep (λ_ _ _=>rfl) ui (λb h _=>(by rcases h with h|h;exact Am h;right;have h':(w1.alloc zoC).1.size<=b:=h;rw[my]at h';exact⟨ub,ub⟩)));have tB:=(yE w1).drew.below K;have XP:=qd tB;have D4:w1.1.size+1<=w2.1.size:=tB.lt;clear tB;have sJ:=q9 KX w2 sP;clear K K5)|(go_at_call 145;refine(LF w1.drew).mono ?_;rintro e w2⟨K,A,rfl,K5⟩;have t7:=qd (qg (Below.refl w1.1.size w1).drew K);have uM:Hid (RfAt (λb=>N b\/w1.1.size<=b) w2 (vi M) A):=qd K5;have D4:w1.1.size<=w2.1.size:=K.size;have iE:¬w.1.size=w2.1.size:=ub;have OA:¬w2.1.size=w.1.size:=ub;have nb3:¬D=w2.1.size:=ub;have nb4:¬w2.1.size=D:=ub;have nb5:w.1.size<w2.1.size:=ub;have nb6:D<w2.1.size:=ub;have sJ:=q9 KX w2 t7;clear K K5))
  all_goals
   go_wp2
   go_meet
   first
    | (have _q:=fC;exact⟨_,r3,rfl,qd (OutAt.put Z ui P9 fG (ex6 p0 p1 p2 p3 p4 p5) pz fC)⟩)
    | (have _q:=MX;exact⟨_,r3,rfl,qd (OutAt.put Z t7.size P9 fG (ex6 p0 p1 p2 p3 p4 p5) pz MX)⟩)
    | (have _q:=fB;exact⟨_,r3,rfl,qd (OutAt.new Z fB)⟩)
 obtain⟨ob,r,rfl,HO⟩:=hcut;rw[<-q9 HT0]at HO;clear LF QT BT KX HT0 UD
 go_wp2
 go_loopw [11] (λi wr=>∃(k:Nat) (r:RF),1<=k/\k<=S.length/\i=I J k/\Hid (OutAt N w1 wr ob (amK x S k) r)) (λi _=>S.length - (intOf i).toNat)
 exact⟨1,r,ui,PJ,rfl,HO⟩;clear HO r;obtain⟨k,r,A4,A8,rfl,HO⟩:=hrel;have X:=(q9 HO).u;have Y6:=X.size;have TI:=(q9 HO).ge;have holt:=(q9 HO).lt
 by_cases A1:k<S.length
 .obtain⟨t,ht⟩:∃t,S[k]?=G t:=⟨_,ag A1⟩
  have Q9:t∈S:=bg ht
  have cL:Xc w1 D k (Y (BS t)):=by
   obtain⟨lg',lcap',e,_,_,UE⟩:=(q9 EO).cell (k:=k) ht;injection e with e1 _ _;injection e1 with e1;injection e1 with e1;rw[e1];exact UE
  have hlkr:Xc wr D k (Y (BS t)):=((qk X).1 _ _ KF).trans cL;have bY:=λk=>(qk X).1 w.1.size k ub
  obtain⟨Y0,Y1,Y2,Y3,Y4,Y5⟩:Kx1 wr w.1.size f:=⟨(bY _).trans X0,(bY _).trans X1,(bY _).trans X2,(bY _).trans X3,(bY _).trans X4,(bY _).trans X5⟩;clear bY;have rG:Hid (amK x S (k+1)=qp 7 (amK x S k) (qp 8 x (vi t))):=qd (vc0 A4 ht);obtain⟨QB,tZ⟩:∃q,BS (qL t)=q:=⟨_,rfl⟩;have LF:=qd (LFg t);have QT:=qd (QTg t ((MS t Q9).1));have BT:=qd ((MS t Q9).2.1);have BP:=qd ((MS t Q9).2.2);have BA:=qd (F k A4 (by rw[q9 HS];exact A8));rw[q9 HS]at BA;have KX:Hid (∀W,Xb wr W->(Kt1 W w.1.size f (Xc W D k (Y (BS t))))):=qd λW hb=>q9 KXg wr W X hb k t cL
  have EJ:Hid (∀W,Xb wr W->RfAt N W x f):=qd λW hb=>q9 MN W (qg X hb)
  have fG:Hid (∀b,N b->b<wr.1.size):=qd λb h=>aq (uI b h) Y6
  rw[tZ]at LF QT;have O8:=um k;have iL:=uo k S.length;clear ht Q9 tZ cL
  go_upto_region 18 with(go_at_call 147;refine be (QT _) λwq hq=>?_;subst wq)
  go_cut [12] (λs12 wx=>∃eb re,s12=Ag (G ⟨eb,0,O⟩)/\Hid (OutAt N wr wx eb (qp 8 x (vi t)) re))
  case first=>
   have TY:D<wr.1.size:=ub;have OC:¬w.1.size=wr.1.size:=ub;have OB:¬wr.1.size=w.1.size:=ub;have na3:¬D=wr.1.size:=ub;have na4:¬wr.1.size=D:=ub;have na5:w.1.size<wr.1.size:=ub;have na6:D<wr.1.size:=ub;have TWA:Hid (∀(w2:Ao) (A:RF),Xb wr w2->RfAt (λb=>N b\/(wr.1.size<=b/\b≠wr.1.size)) w2 (vi t) A->wr.1.size+1<=w2.1.size->TwC (λb=>N b\/(wr.1.size<=b/\b≠wr.1.size)) w2 ⟨#[61]⟩ f A (qp 8 x (vi t))):=qd λw2 A R h2 h3=>qko (o:=8) (by simp[vF]) R ((EJ w2 R).keep (λ_ _ _=>rfl) ui (λ_ h _=>Am h)) h2 ub bx BT
   have TWB:Hid (∀(w2:Ao) (A:RF),Xb wr w2->RfAt (λb=>N b\/wr.1.size<=b) w2 (vi t) A->TwC (λb=>N b\/(wr.1.size<=b/\b≠w2.1.size)) (w2.alloc zoC) ⟨#[61]⟩ f A (qp 8 x (vi t))):=qd λw2 A R h2=>qko (o:=8) (by simp[vF]) (qg R (uj.alloc ui _)) ((EJ _ (qg R (uj.alloc ui zoC))).keep (λ_ _ _=>rfl) ui (λ_ h _=>Am h)) (qr4 h2 _) uc bx BT
   have TWC:Hid (∀(w2:Ao) (A:RF),Xb wr w2->RfAt (λb=>N b\/wr.1.size<=b) w2 (vi t) A->TwC (λb=>N b\/wr.1.size<=b) w2 ⟨#[61]⟩ f A (qp 8 x (vi t))):=qd λw2 A R h2=>vb5 (o:=8) (by simp[vF]) R ((EJ w2 R).keep (λ_ _ _=>rfl) ui (λ_ h _=>Am h)) h2 bx BT
   go_region_held3 (λW=>Kt1 W w.1.size f (Xc W D k (Y (BS t)))) (first|with_reducible assumption|(simp only[Kt1];go_keep)) (first|(go_at_call 148;have _q:=NL;refine(TWA w2 A sP NL D4).mono ?_;rintro e H⟨F,r3,rfl,D8⟩;have fC:=qd D8;have Z:=qd (qg sP F);obtain⟨p0,p1,p2,p3,p4,p5,pz,P9⟩:=(q9 XP).below F;have bJ:=q9 KX H Z;clear F D8)|(go_at_call 148;have _q:=uM;refine(TWB w2 A t7 uM).mono ?_;rintro e H⟨F,r3,rfl,D8⟩;have MX:=qd D8;have Z:=qd (qg (qg t7 (uj.alloc ui _)) F);obtain⟨p0,p1,p2,p3,p4,p5,pz,P9⟩:=(yE w2).below F;have bJ:=q9 KX H Z;clear F D8)|(go_at_call 148;have _q:=uM;refine(TWC w2 A t7 uM).mono ?_;rintro e H⟨F,r3,rfl,D8⟩;have fB:=qd D8;have Z:=qd (qg t7 F);have sV:=F.size;have NZ:¬w.1.size=H.1.size:=ub;have NW:¬H.1.size=w.1.size:=ub;have nc3:¬D=H.1.size:=ub;have nc4:¬H.1.size=D:=ub;have nc5:w.1.size<H.1.size:=ub;have nc6:D<H.1.size:=ub;have bJ:=q9 KX H Z;clear F D8)|(go_at_call 145;refine(LF (wr.alloc zoC).drew).mono ?_;rintro e w2⟨K,A,rfl,K5⟩;have sP:=qd (qg ((Below.refl wr.1.size wr).alloc ui zoC).drew K);have NL:Hid (RfAt (λb=>N b\/(wr.1.size<=b/\b≠wr.1.size)) w2 (vi t) A):=qd (K5.keep (λ_ _ _=>rfl) ui (λb h _=>(by rcases h with h|h;exact Am h;right;have h':(wr.alloc zoC).1.size<=b:=h;rw[my]at h';exact⟨ub,ub⟩)));have tB:=(yE wr).drew.below K;have XP:=qd tB;have D4:wr.1.size+1<=w2.1.size:=tB.lt;clear tB;have sJ:=q9 KX w2 sP;clear K K5)|(go_at_call 145;refine(LF wr.drew).mono ?_;rintro e w2⟨K,A,rfl,K5⟩;have t7:=qd (qg (Below.refl wr.1.size wr).drew K);have uM:Hid (RfAt (λb=>N b\/wr.1.size<=b) w2 (vi t) A):=qd K5;have D4:wr.1.size<=w2.1.size:=K.size;have iE:¬w.1.size=w2.1.size:=ub;have OA:¬w2.1.size=w.1.size:=ub;have nb3:¬D=w2.1.size:=ub;have nb4:¬w2.1.size=D:=ub;have nb5:w.1.size<w2.1.size:=ub;have nb6:D<w2.1.size:=ub;have sJ:=q9 KX w2 t7;clear K K5))
   all_goals
    go_wp2
    go_meet
    first
     | (have _q:=fC;exact⟨_,r3,rfl,qd (OutAt.put Z ui P9 fG (ex6 p0 p1 p2 p3 p4 p5) pz fC)⟩)
     | (have _q:=MX;exact⟨_,r3,rfl,qd (OutAt.put Z t7.size P9 fG (ex6 p0 p1 p2 p3 p4 p5) pz MX)⟩)
     | (have _q:=fB;exact⟨_,r3,rfl,qd (OutAt.new Z fB)⟩)
  obtain⟨eb,re,rfl,HE⟩:=hcut;have fF:=qd (HO.below HE.u);have aP:=(q9 fF).cells;have CU:=(q9 HE).cells;have JP:=(q9 fF).lt;have helt:=(q9 HE).lt;have u0:Xc wc ob 0 (Y r.op):=aP 0 ub;have u1:Xc wc ob 1 (Y (BS r.Q)):=aP 1 ub;have u2:Xc wc ob 2 (I J r.H):=aP 2 ub;have u3:Xc wc ob 3 (C r.pa r.pn r.pc):=aP 3 ub;have u4:Xc wc ob 4 (C r.ta r.tn r.tc):=aP 4 ub;have u5:Xc wc ob 5 (C r.ra r.rn r.rc):=aP 5 ub;have v0:Xc wc eb 0 (Y re.op):=CU 0 ub;have v1:Xc wc eb 1 (Y (BS re.Q)):=CU 1 ub;have v2:Xc wc eb 2 (I J re.H):=CU 2 ub;have v3:Xc wc eb 3 (C re.pa re.pn re.pc):=CU 3 ub;have v4:Xc wc eb 4 (C re.ta re.tn re.tc):=CU 4 ub;have v5:Xc wc eb 5 (C re.ra re.rn re.rc):=CU 5 ub;have FP:=(q9 HE).u.size
  have TWO:Hid (TwC (λb=>N b\/(w1.1.size<=b/\b≠ob)) wc ⟨#[79,82]⟩ r re (qp 7 (amK x S k) (qp 8 x (vi t)))):=qd (qko (o:=7) (by simp[vF]) fF.u fF.rf (HE.rf.keep (λ_ _ _=>rfl) ui (λb h _=>by
   rcases h with h|h;exact Am h
   exact An ⟨ub,ub⟩)) JP BA BP)
  clear aP CU
  go_wp2_with(go_at_call 148;refine TWO.mono ?_;rintro e w5⟨aU,s,rfl,JA⟩;have ET:=qd (fF.below aU);have lU:=(q9 ET).cells;have x0:Xc w5 ob 0 (Y r.op):=lU 0 ub;have x1:Xc w5 ob 1 (Y (BS r.Q)):=lU 1 ub;have x2:Xc w5 ob 2 (I J r.H):=lU 2 ub;have x3:Xc w5 ob 3 (C r.pa r.pn r.pc):=lU 3 ub;have x4:Xc w5 ob 4 (C r.ta r.tn r.tc):=lU 4 ub;have x5:Xc w5 ob 5 (C r.ra r.rn r.rc):=lU 5 ub;have xz:=(q9 ET).fz;have xl:=(q9 ET).lt;have HS5:=qd JA;clear aU lU JA)
  go_roundw
  case rel=>exact⟨k+1,s,ub,ub,by go_num,qd (by rw[q9 rG];exact OutAt.put ET.u TI xl uI (λk hk=>by match k,hk with|0,_=>exact⟨_,x0⟩|1,_=>exact⟨_,x1⟩|2,_=>exact⟨_,x2⟩|3,_=>exact⟨_,x3⟩|4,_=>exact⟨_,x4⟩|5,_=>exact⟨_,x5⟩) xz HS5)⟩
  simp[intOf];omega
 have aC:k=S.length:=ub;have nX:=uq k S.length;have LW:amK x S k=vI x ts:=by rw[aC,<-q9 HS];exact viq (by rw[q9 HS];exact LL)
 rw[LW]at HO;have aP:=(q9 HO).cells;have u0:Xc wr ob 0 (Y r.op):=aP 0 ub;have u1:Xc wr ob 1 (Y (BS r.Q)):=aP 1 ub;have u2:Xc wr ob 2 (I J r.H):=aP 2 ub;have u3:Xc wr ob 3 (C r.pa r.pn r.pc):=aP 3 ub;have u4:Xc wr ob 4 (C r.ta r.tn r.tc):=aP 4 ub;have u5:Xc wr ob 5 (C r.ra r.rn r.rc):=aP 5 ub;have q0:Xc wr (w.1.size+1) 0 (Y ⟨#[]⟩):=((qk X).1 _ _ ub).trans Q0;have q1:Xc wr (w.1.size+1) 1 (Y ⟨#[]⟩):=((qk X).1 _ _ ub).trans Q1;have q2:Xc wr (w.1.size+1) 2 (I J 0):=((qk X).1 _ _ ub).trans Q2;have q3:Xc wr (w.1.size+1) 3 (C O 0 0):=((qk X).1 _ _ ub).trans Q3;have q4:Xc wr (w.1.size+1) 4 (C O 0 0):=((qk X).1 _ _ ub).trans Q4;have q5:Xc wr (w.1.size+1) 5 (C O 0 0):=((qk X).1 _ _ ub).trans Q5;have qz:Xf wr (w.1.size+1):=λi=>((qk X).2 _ i ub).trans (QZ i)
 have ql:w.1.size+1<wr.1.size:=ub;have nq:¬ob=w.1.size+1:=ub;have fI:=qd (qg YR X);clear aC LW aP
 go_wp2
 refine bj (by simp[go_sem,q0,q1,q2,q3,q4,q5]<;>rfl) rfl ?_;have hs:=yY wr (w.1.size+1) (Y r.op) (Y (BS r.Q)) (I J r.H) (C r.pa r.pn r.pc) (C r.ta r.tn r.tc) (C r.ra r.rn r.rc);exact⟨hs.u _ _ ub fI,r,rfl,hs.rf HO.rf (by rintro (h|h);have:=q9 uI _ h;have:=hN _ h;omega;have:=h.1;omega) (λb h _=>by rcases h with h|h;exact Am h;exact An (uu h.1))⟩
end
abbrev cV(f:RF):Array Ap:=#[Y f.op,Y (BS f.Q),I J f.H,C f.pa f.pn f.pc,C f.ta f.tn f.tc,C f.ra f.rn f.rc]
structure CnAt(w W:Ao)(x0 x1 x2 x3 x4 x5 x6 x7 x8:Ap):Prop where
 n0:W.cell? ⟨w.1.size,0,O⟩=G x0
 n1:W.cell? ⟨w.1.size,1,O⟩=G x1
 n2:W.cell? ⟨w.1.size,2,O⟩=G x2
 n3:W.cell? ⟨w.1.size,3,O⟩=G x3
 n4:W.cell? ⟨w.1.size,4,O⟩=G x4
 n5:W.cell? ⟨w.1.size,5,O⟩=G x5
 n6:W.cell? ⟨w.1.size,6,O⟩=G x6
 n7:W.cell? ⟨w.1.size,7,O⟩=G x7
 n8:W.cell? ⟨w.1.size,8,O⟩=G x8
 r0:W.cell? ⟨w.1.size+1,0,O⟩=G (Y ⟨#[]⟩)
 r1:W.cell? ⟨w.1.size+1,1,O⟩=G (Y ⟨#[]⟩)
 r2:W.cell? ⟨w.1.size+1,2,O⟩=G (I J 0)
 r3:W.cell? ⟨w.1.size+1,3,O⟩=G (C O 0 0)
 r4:W.cell? ⟨w.1.size+1,4,O⟩=G (C O 0 0)
 r5:W.cell? ⟨w.1.size+1,5,O⟩=G (C O 0 0)
 rz:∀i,W.frozen? ⟨w.1.size+1,i,O⟩=false
 rl:w.1.size+1<W.1.size
 a0:¬w.1.size=W.1.size
 a1:¬w.1.size+1=W.1.size
 a2:¬W.1.size=w.1.size
 a3:¬W.1.size=w.1.size+1
section
variable {w W W':Ao} {x0 x1 x2 x3 x4 x5 x6 x7 x8:Ap}
theorem CnAt.below(h:CnAt w W x0 x1 x2 x3 x4 x5 x6 x7 x8)(u:Xb W W'):CnAt w W' x0 x1 x2 x3 x4 x5 x6 x7 x8:=by
 obtain⟨e,A⟩:=qk u;have n:=h.rl;have B:=u.size;have m:w.1.size<W.1.size:=ub;exact⟨(e _ _ m).trans h.n0,(e _ _ m).trans h.n1,(e _ _ m).trans h.n2,(e _ _ m).trans h.n3,(e _ _ m).trans h.n4,(e _ _ m).trans h.n5,(e _ _ m).trans h.n6,(e _ _ m).trans h.n7,(e _ _ m).trans h.n8,(e _ _ n).trans h.r0,(e _ _ n).trans h.r1,(e _ _ n).trans h.r2,(e _ _ n).trans h.r3,(e _ _ n).trans h.r4,(e _ _ n).trans h.r5,λi=>(A _ i n).trans (h.rz i),ub,ub,ub,ub,ub⟩
theorem CnAt.alloc(h:CnAt w W x0 x1 x2 x3 x4 x5 x6 x7 x8)(o:Obj):CnAt w (W.alloc o) x0 x1 x2 x3 x4 x5 x6 x7 x8:=h.below (uj.alloc ui o)
theorem CnAt.drew(h:CnAt w W x0 x1 x2 x3 x4 x5 x6 x7 x8):CnAt w W.drew x0 x1 x2 x3 x4 x5 x6 x7 x8:=⟨h.n0,h.n1,h.n2,h.n3,h.n4,h.n5,h.n6,h.n7,h.n8,h.r0,h.r1,h.r2,h.r3,h.r4,h.r5,h.rz,h.rl,h.a0,h.a1,h.a2,h.a3⟩
theorem qxy:CnAt w ((w.alloc (Al #[x0,x1,x2,x3,x4,x5,x6,x7,x8] 178)).alloc zoC) x0 x1 x2 x3 x4 x5 x6 x7 x8:=by
 refine⟨?_, ?_, ?_, ?_, ?_, ?_, ?_, ?_, ?_, ?_, ?_, ?_, ?_, ?_, ?_,λi=>?_, ?_, ?_, ?_, ?_, ?_⟩<;>simp[go_sem]<;>omega
end
def xJ(w:Ao)(PZ:RF->Ao->Prop):Prop:=∀W,Below w.1.size w W->w.1.size+1+1<=W.1.size->Calls prog 145 #[Y ⟨#[110,117,109,98,101,114]⟩,Y ⟨#[48]⟩,I J 2,I J 0] W λe w'=>Below W.1.size W w'/\∃z:RF,e=Ak z.v/\PZ z w'
def ju(w:Ao)(PZ P:RF->Ao->Prop)(fn:Nat)(args:RF->Array Ap):Prop:=∀wz z W,Below w.1.size w wz->w.1.size+1<wz.1.size->PZ z wz->Below wz.1.size wz W->Calls prog fn (args z) W λe w'=>Below W.1.size W w'/\∃r:RF,e=Ak r.v/\P r w'
def jh(w:Ao)(P:RF->Ao->Prop)(Q:Ending->Ao->Prop):Prop:=∀r w1 w',Below w.1.size w w1->P r w1->SixAt (w.1.size+1) w1 w'->Q (Ak r.v) w'
theorem jv(D:xJ w PZ)(x0 x1 x2 x3 x4 x5 x6 x7 x8:Ap):Hid (ua 145 #[Y ⟨#[110,117,109,98,101,114]⟩,Y ⟨#[48]⟩,I J 2,I J 0] ((w.alloc (Al #[x0,x1,x2,x3,x4,x5,x6,x7,x8] 178)).alloc zoC) λe m=>∃z:RF,e=Ak (Ai #[Y z.op,Y (BS z.Q),I J z.H,C z.pa z.pn z.pc,C z.ta z.tn z.tc,C z.ra z.rn z.rc])/\Hid (Xb w m)/\Hid (PZ z m)/\CnAt w m x0 x1 x2 x3 x4 x5 x6 x7 x8/\Hid (CnAt w (m.alloc (Al (cV z) 106)) x0 x1 x2 x3 x4 x5 x6 x7 x8)/\Hid (Xb m (m.alloc (Al (cV z) 106)))):=by
 have u:Xb w ((w.alloc (Al #[x0,x1,x2,x3,x4,x5,x6,x7,x8] 178)).alloc zoC):=(uj.alloc ui _).alloc uc _;exact qd ((D _ u uc).mono λe m ⟨n,z,B,A⟩=>⟨z,B,qd (qg u n),qd A,qxy.below n,qd ((qxy.below n).alloc _),qd (uj.alloc ui _)⟩)
theorem jU{p:Prop}(h:p:=by
 refine bj (by simp[go_sem,q0,q1,q2,q3,q4,q5]<;>rfl) rfl ?_
 exact q9 M5 r w1 _ D6 bB (yY _ _ _ _ _ _ _ _)):p:=h
theorem vmk(e:∀k,k<6->W.cell? ⟨b,k,O⟩=(qw g)[k]?):Kx1 W b g:=⟨e 0 ub,e 1 ub,e 2 ub,e 3 ub,e 4 ub,e 5 ub⟩
theorem OutAt.k1{wr:Ao}(h:OutAt N w1 wr ob c r):Kx1 wr ob r:=vmk h.cells
theorem vrg(e:∀k,k<12->W.cell? ⟨b,k,O⟩=(qw g++qw h)[k]?):Kx2 W b g h:=⟨e 0 ub,e 1 ub,e 2 ub,e 3 ub,e 4 ub,e 5 ub,e 6 ub,e 7 ub,e 8 ub,e 9 ub,e 10 ub,e 11 ub⟩
theorem vrh(e:∀k,k<18->W.cell? ⟨b,k,O⟩=(qw g++qw h++qw j)[k]?):Kx3 W b g h j:=⟨e 0 ub,e 1 ub,e 2 ub,e 3 ub,e 4 ub,e 5 ub,e 6 ub,e 7 ub,e 8 ub,e 9 ub,e 10 ub,e 11 ub,e 12 ub,e 13 ub,e 14 ub,e 15 ub,e 16 ub,e 17 ub⟩
theorem kb1(u:b<w.1.size)(m:∀k,k<6->w.cell? ⟨b,k,O⟩=(qw g)[k]?):Hid (∀W,Xb w W->(Kx1 W b g)):=qd λ_ n=>vmk λi e=>(n.cell (p:=⟨b,i,O⟩) u).trans (m i e)
theorem kb2(u:b<w.1.size)(m:∀k,k<12->w.cell? ⟨b,k,O⟩=(qw g++qw h)[k]?):Hid (∀W,Xb w W->(Kx2 W b g h)):=qd λ_ n=>vrg λi e=>(n.cell (p:=⟨b,i,O⟩) u).trans (m i e)
theorem kb3(u:b<w.1.size)(m:∀k,k<18->w.cell? ⟨b,k,O⟩=(qw g++qw h++qw j)[k]?):Hid (∀W,Xb w W->(Kx3 W b g h j)):=qd λ_ n=>vrh λi e=>(n.cell (p:=⟨b,i,O⟩) u).trans (m i e)
theorem qdp{N c:Int}(K:Ae=⟨#[84,82,85,69]⟩\/Ae=⟨#[70,65,76,83,69]⟩)
   (B:xJ w PZ) (D:ju w PZ P 145 λ_=>#[Y Ae,Y Ae,I J 1,I J 0])
   (C:jh w P Q):ua 101 #[Ai #[Y Ae,I J a,iv,Y S,Y E,lv,I J N,Ah neg,I J c],inv] w Q:=by
 have L:=jv B (Y Ae) (I J a) iv (Y S) (Y E) lv (I J N) (Ah neg) (I J c);have F:=qd D;have M5:=qd C;simp only[ju,jh,RF.v]at F M5;clear B D C;rcases K with rfl|rfl
 all_goals go_enter func101,ntmps101
 all_goals go_wp2_with(first|(go_at_call 145;refine(F _ _ _ A G H u).mono ?_;rintro e w1⟨m,r,rfl,hp⟩;have D6:=qd (qg (qg A u) m);obtain⟨-,-,-,-,-,-,-,-,-,q0,q1,q2,q3,q4,q5,qz,ql,-,-,-,-⟩:=(q9 n).below m;have bB:=qd hp;clear m hp)|(go_at_call 145;refine L.mono ?_;rintro e M⟨z,rfl,A,H,⟨n0,-,-,-,-,-,-,-,-,r0,r1,r2,r3,r4,r5,rz,G,lB,lA,iZ,iY⟩,n,u⟩;obtain⟨m0,-,-,-,-,-,-,-,-,s0,s1,Z,X,U,R,sz,O,-,-,-,-⟩:=q9 n))
 all_goals exact jU
theorem qtj{N c:Int}
   (B:xJ w PZ) (D:ju w PZ P 145 λ_=>#[Y ⟨#[110,97,109,101]⟩,Y S,I J 0,I J (S.size:Nat)])
   (C:jh w P Q):ua 101 #[Ai #[Y ⟨#[110,97,109,101]⟩,I J a,iv,Y S,Y E,lv,I J N,Ah neg,I J c],inv] w Q:=by
 have K:=jv B (Y ⟨#[110,97,109,101]⟩) (I J a) iv (Y S) (Y E) lv (I J N) (Ah neg) (I J c);have F:=qd D;have M5:=qd C;simp only[ju,jh,RF.v]at F M5;clear B D C;go_enter func101,ntmps101
 go_wp2_with(first|(go_at_call 145;refine(F _ _ _ A G H u).mono ?_;rintro e w1⟨m,r,rfl,hp⟩;have D6:=qd (qg (qg A u) m);obtain⟨-,-,-,-,-,-,-,-,-,q0,q1,q2,q3,q4,q5,qz,ql,-,-,-,-⟩:=(q9 n).below m;have bB:=qd hp;clear m hp)|(go_at_call 145;refine K.mono ?_;rintro e L⟨z,rfl,A,H,⟨n0,-,-,n3,-,-,-,-,-,r0,r1,r2,r3,r4,r5,rz,G,lB,lA,iZ,iY⟩,n,u⟩;obtain⟨m0,-,-,m3,-,-,-,-,-,s0,Z,X,U,R,O,sz,M,-,-,-,-⟩:=q9 n))
 all_goals exact jU
theorem qjr{N c:Int}(D:∀W,ut 146 #[I J N] W (Y QB))
   (C:xJ w PZ) (G:ju w PZ P 145 λ_=>#[Y ⟨#[110,117,109,98,101,114]⟩,Y QB,I J 2,I J 0])
   (F:jh w P Q):ua 101 #[Ai #[Y ⟨#[110,117,109,98,101,114]⟩,I J a,iv,Y S,Y E,lv,I J N,Ah neg,I J c],inv] w Q:=by
 have M:=jv C (Y ⟨#[110,117,109,98,101,114]⟩) (I J a) iv (Y S) (Y E) lv (I J N) (Ah neg) (I J c);have H:=qd G;have M5:=qd F;simp only[ju,jh,RF.v]at H M5;clear C G F;have O:=qd D;clear D;go_enter func101,ntmps101
 go_wp2_with(first|(go_at_call 145;refine(H _ _ _ B K L n).mono ?_;rintro e w1⟨A,r,rfl,hp⟩;have D6:=qd (qg (qg B n) A);obtain⟨-,-,-,-,-,-,-,-,-,q0,q1,q2,q3,q4,q5,qz,ql,-,-,-,-⟩:=(q9 m).below A;have bB:=qd hp;clear A hp)|(go_at_call 146;refine be (O _) λU u=>?_;have n:=qd (qg n u);have m:=qd (m.below u);clear u)|(go_at_call 145;refine M.mono ?_;rintro e R⟨z,rfl,B,L,⟨n0,-,-,-,-,-,n6,-,-,r0,r1,r2,r3,r4,r5,rz,K,lB,lA,iZ,iY⟩,m,n⟩;obtain⟨m0,-,-,-,-,-,m6,-,-,s0,s1,s2,s3,s4,Z,sz,X,-,-,-,-⟩:=q9 m))
 all_goals exact jU
theorem qtl{N c:Int}(C:∀W,ua 147 #[Y S] W λe w'=>e=Ak (Y QB)/\w'=W)
   (B:xJ w PZ) (F:ju w PZ P 145 λ_=>#[Y ⟨#[116,101,120,116]⟩,Y QB,I J 3,I J (S.size:Nat)])
   (D:jh w P Q):ua 101 #[Ai #[Y ⟨#[116,101,120,116]⟩,I J a,iv,Y S,Y E,lv,I J N,Ah neg,I J c],inv] w Q:=by
 have O:=jv B (Y ⟨#[116,101,120,116]⟩) (I J a) iv (Y S) (Y E) lv (I J N) (Ah neg) (I J c);have G:=qd F;have M5:=qd D;simp only[ju,jh,RF.v]at G M5;clear B F D;have R:=qd C;clear C;go_enter func101,ntmps101
 go_wp2_with(go_at_call 145;refine O.mono ?_;rintro e U⟨z,rfl,A,L,⟨n0,-,-,n3,-,-,-,-,-,r0,r1,r2,r3,r4,r5,rz,K,lB,lA,iZ,iY⟩,n,u⟩;obtain⟨m0,-,-,m3,-,-,-,-,-,s0,s1,s2,s3,s4,Z,sz,X,-,-,-,-⟩:=q9 n)
 go_region_held3 (λW=>Xc W w.1.size 3 (Y S)) (first|with_reducible assumption|go_keep) (first|(go_at_call 145;refine(G _ _ _ A K L u.drew).mono ?_;rintro e w1⟨m,r,rfl,hp⟩;have D6:=qd (qg (qg A u.drew) m);obtain⟨-,-,-,M,-,-,-,-,-,q0,q1,q2,q3,q4,q5,qz,ql,-,-,-,-⟩:=(q9 n).drew.below m;have bB:=qd hp;have hS:(Xc w1 w.1.size 3 (Y S)):=M;clear m hp)|(go_at_call 147;refine be (R _) λH hq=>?_;subst H))
 go_wp2
 all_goals exact jU
end Go.Proofs.YtdmmmgodfceilaaGreatDoor
