/- The document's answer -/
import Derived.Test.YtfkcaldjphakpaaGreatDoorM20
import Derived.Sort.Walk0
import Derived.Deep.CutBlock
import Derived.Test.YtfkcaldjphakpaaGreatDoorM04
set_option maxHeartbeats 32000000
set_option maxRecDepth 100000
namespace Go.Proofs.YtfkcaldjphakpaaGreatDoor
open Go.RowKit Go.Proofs.Tryz
variable{neg:Bool}{E O O1 O2 QB S:mu}{c x y:Co}{Q:Ending->World->Prop}{a o:Int}{ts:List mv}{T t:mv}{b base cap i k ob pb q:Nat}{N N':Nat->Prop}{p:Pay}{f g h j r:RF}{P PZ:RF->World->Prop}{d inv iv lv v:Value}{W w w' w1:World}
section
structure SixAt(q:Nat)(W W':World):Prop where
 block:∀k,k≠q->W'.heap[k]?=W.heap[k]?
 size:W'.heap.size=W.heap.size
 bel:∀(B:Nat) (a:World),B<=q->Below B a W->Below B a W'
theorem jm(W:World)(q:Nat)(a b c d f g:Value):SixAt q W ((((((W.setCell ⟨q,0,none⟩ a).setCell ⟨q,1,none⟩ b).setCell ⟨q,2,none⟩ c).setCell ⟨q,3,none⟩ d).setCell ⟨q,4,none⟩ f).setCell ⟨q,5,none⟩ g):=by
 refine⟨λk m=>?_,by simp only[lh],λB a e n=>(((((n.setCell e _).setCell e _).setCell e _).setCell e _).setCell e _).setCell e _⟩;rw[bo _ ⟨q,5,none⟩ _ k m,bo _ ⟨q,4,none⟩ _ k m,bo _ ⟨q,3,none⟩ _ k m,bo _ ⟨q,2,none⟩ _ k m,bo _ ⟨q,1,none⟩ _ k m,bo _ ⟨q,0,none⟩ _ k m]
theorem SixAt.rf{W':World}(h:SixAt q W W')(n:RfAt N W c f)(m:¬N q)(A:∀b,N b->b<W.heap.size->N' b):RfAt N' W' c f:=
 n.keep (λb u _=>h.block b (λe=>m (e ▸ u))) (by rw[h.size];exact nt) A
theorem qre{cl:Int}{sw:Bool}(K:(O=⟨#[65,78,68]⟩/\cl=1/\sw=true)\/(O=⟨#[79,82]⟩/\cl=1/\sw=true)\/(O=⟨#[61]⟩/\cl=1/\sw=true)\/(O=⟨#[60]⟩/\cl=1/\sw=false)\/(O=⟨#[60,61]⟩/\cl=1/\sw=false)\/(O=⟨#[43]⟩/\cl=2/\sw=true)\/(O=⟨#[45]⟩/\cl=2/\sw=false)\/(O=⟨#[42]⟩/\cl=2/\sw=true)\/(O=⟨#[47]⟩/\cl=2/\sw=false))(A:(sw&&Op.bytesLess g.text f.text)=false)(C:f.text.length<=400000000)(B:g.text.length<=400000000)(L:T=[40]++f.text++[32]++O.data.toList++[32]++g.text++[41])
   (HM:∀W,Xb w W->w.heap.size+1+1+1<W.heap.size->(∀k,k<12->W.cell? ⟨w.heap.size+1+1+1,k,none⟩=(qt f++qt g)[k]?) ->
   nz 229 #[.string O,.string (BS T),.int .i64 cl,.slice (some ⟨w.heap.size+1+1+1,0,none⟩) 2 2,.int .i64 0] W λe w'=>Xb W w'/\∃r:RF,e=.returned r.v/\P r w')
   (HQ:∀r w1 w',Xb w w1->P r w1->SixAt (w.heap.size+1+1) w1 w'->Q (.returned r.v) w') :
  nz 227 #[.string O,f.v,g.v] w Q:=by
 have XH:O.size<=3:=by rcases K with⟨rfl,rfl,rfl⟩|⟨rfl,rfl,rfl⟩|⟨rfl,rfl,rfl⟩|⟨rfl,rfl,rfl⟩|⟨rfl,rfl,rfl⟩|⟨rfl,rfl,rfl⟩|⟨rfl,rfl,rfl⟩|⟨rfl,rfl,rfl⟩|⟨rfl,rfl,rfl⟩<;>decide
 obtain⟨R1,e1,I,a1⟩:=jg ⟨#[40]⟩ (BS f.text) 1 400000000 nt (by rw[qG];exact C) nh;obtain⟨R2,Z,H,a2⟩:=jg R1 ⟨#[32]⟩ 400000001 1 I nt nh;obtain⟨R3,Y,G,a3⟩:=jg R2 O 400000002 3 H XH nh;obtain⟨R4,X,F,a4⟩:=jg R3 ⟨#[32]⟩ 400000005 1 G nt nh;obtain⟨R5,U,D,a5⟩:=jg R4 (BS g.text) 400000006 400000000 F (by rw[qG];exact B) nh;obtain⟨R6,R,y6,a6⟩:=jg R5 ⟨#[41]⟩ 800000006 1 D nt nh
 have M:BS T=R6:=by
  rw[L,R,U,X,Y,Z,e1,show(⟨#[40]⟩:mu)=BS [40] from rfl,show(⟨#[32]⟩:mu)=BS [32] from rfl,show(⟨#[41]⟩:mu)=BS [41] from rfl,show O=BS O.data.toList from(vex O).symm,jh,jh,jh,jh,jh,jh,xg]
 have U7:Op.bytesLess (BS g.text).toList (BS f.text).toList=Op.bytesLess g.text f.text:=by rw[qM,qM]
 have u:=qd HM;rw[M]at u;have I6:=qd HQ;simp only[RF.v]at u I6 ⊢;have m:Hid (Xb w ((((w.alloc (.cells #[.string f.op,.string (BS f.text),.int .i64 f.cls,.slice f.pa f.pn f.pc,.slice f.ta f.tn f.tc,.slice f.ra f.rn f.rc] 184)).alloc (.cells #[.string g.op,.string (BS g.text),.int .i64 g.cls,.slice g.pa g.pn g.pc,.slice g.ta g.tn g.tc,.slice g.ra g.rn g.rc] 184)).alloc zoC).alloc (.cells #[.string f.op,.string (BS f.text),.int .i64 f.cls,.slice f.pa f.pn f.pc,.slice f.ta f.tn f.tc,.slice f.ra f.rn f.rc,.string g.op,.string (BS g.text),.int .i64 g.cls,.slice g.pa g.pn g.pc,.slice g.ta g.tn g.tc,.slice g.ra g.rn g.rc] 184))/\w.heap.size+1+1+1<((((w.alloc (.cells #[.string f.op,.string (BS f.text),.int .i64 f.cls,.slice f.pa f.pn f.pc,.slice f.ta f.tn f.tc,.slice f.ra f.rn f.rc] 184)).alloc (.cells #[.string g.op,.string (BS g.text),.int .i64 g.cls,.slice g.pa g.pn g.pc,.slice g.ta g.tn g.tc,.slice g.ra g.rn g.rc] 184)).alloc zoC).alloc (.cells #[.string f.op,.string (BS f.text),.int .i64 f.cls,.slice f.pa f.pn f.pc,.slice f.ta f.tn f.tc,.slice f.ra f.rn f.rc,.string g.op,.string (BS g.text),.int .i64 g.cls,.slice g.pa g.pn g.pc,.slice g.ta g.tn g.tc,.slice g.ra g.rn g.rc] 184)).heap.size/\∀k,k<12->((((w.alloc (.cells #[.string f.op,.string (BS f.text),.int .i64 f.cls,.slice f.pa f.pn f.pc,.slice f.ta f.tn f.tc,.slice f.ra f.rn f.rc] 184)).alloc (.cells #[.string g.op,.string (BS g.text),.int .i64 g.cls,.slice g.pa g.pn g.pc,.slice g.ta g.tn g.tc,.slice g.ra g.rn g.rc] 184)).alloc zoC).alloc (.cells #[.string f.op,.string (BS f.text),.int .i64 f.cls,.slice f.pa f.pn f.pc,.slice f.ta f.tn f.tc,.slice f.ra f.rn f.rc,.string g.op,.string (BS g.text),.int .i64 g.cls,.slice g.pa g.pn g.pc,.slice g.ta g.tn g.tc,.slice g.ra g.rn g.rc] 184)).cell? ⟨w.heap.size+1+1+1,k,none⟩=(qt f++qt g)[k]?):=qd ⟨((((nw.alloc nt _).alloc mx _).alloc nj _).alloc nj _),mx,λk hk=>by rw[cd _ _ _ _ mx];match k,hk with|0,_=>rfl|1,_=>rfl|2,_=>rfl|3,_=>rfl|4,_=>rfl|5,_=>rfl|6,_=>rfl|7,_=>rfl|8,_=>rfl|9,_=>rfl|10,_=>rfl|11,_=>rfl⟩;clear HM HQ C B L M e1 Z Y X U R I H G F D y6 XH;rcases K with⟨rfl,rfl,rfl⟩|⟨rfl,rfl,rfl⟩|⟨rfl,rfl,rfl⟩|⟨rfl,rfl,rfl⟩|⟨rfl,rfl,rfl⟩|⟨rfl,rfl,rfl⟩|⟨rfl,rfl,rfl⟩|⟨rfl,rfl,rfl⟩|⟨rfl,rfl,rfl⟩
 all_goals try(rw[fm]at A;rw[A]at U7)
 all_goals clear A
 all_goals go_enter func227,ntmps227
 all_goals go_wp2_with(go_at_call 229;refine(u _ m.1 m.2.1 m.2.2).mono ?_;rintro e w1⟨n,r,rfl,J⟩;have C9:=qd (qf m.1 n);obtain⟨D5,F6⟩:=qj n;have r0:∀i,w1.cell? ⟨w.heap.size+1+1,i,none⟩=(#[.string ⟨#[]⟩,.string ⟨#[]⟩,.int .i64 0,.slice none 0 0,.slice none 0 0,.slice none 0 0]:Array Value)[i]?:=(λi=>(D5 _ i nj).trans (by simp[go_sem]));have rz:Xf w1 (w.heap.size+1+1):=(λi=>(F6 _ i nj).trans (by simp[go_sem]));have rl:w.heap.size+1+1<w1.heap.size:=(by have:=n.size;simp at this;omega);have Q9:=qd J;clear n D5 F6 J)
 all_goals refine ak (by simp[go_sem,r0]<;>rfl) rfl ?_
 all_goals exact q9 I6 r w1 _ C9 Q9 (jm _ _ _ _ _ _ _ _)
end
section
theorem qku{x y:mv}(h:Op.bytesLess x y=true):Op.bytesLess y x=false:=by
 induction x generalizing y with
 | nil=>cases y<;>simp[Op.bytesLess]at h ⊢
 | cons a x ih=>
  cases y with
  | nil=>simp[Op.bytesLess]at h
  | cons b y=>
   simp only[Op.bytesLess,dk,cn,du,dg,fa,ll,decide_eq_false_iff_not]at h ⊢;rcases h with h|⟨rfl,h⟩
   ·exact⟨λe=>md _ (UInt8.lt_trans h e),.inl (by simp;rintro rfl;exact md _ h)⟩
   ·exact⟨md _,.inr (ih h)⟩
theorem qrf(J:O=⟨#[65,78,68]⟩\/O=⟨#[79,82]⟩\/O=⟨#[61]⟩\/O=⟨#[43]⟩\/O=⟨#[42]⟩)(H:Op.bytesLess g.text f.text=true)
   (D:∀W,Xb w W->w.heap.size+1+1+1<=W.heap.size->nz 227 #[.string O,g.v,f.v] W λe w'=>Xb W w'/\∃r:RF,e=.returned r.v/\P r w')
   (C:∀r w1 w',Xb w w1->P r w1->SixAt (w.heap.size+1+1) w1 w'->Q (.returned r.v) w') :
  nz 227 #[.string O,f.v,g.v] w Q:=by
 have U:Op.bytesLess (BS g.text).toList (BS f.text).toList=true:=by rw[qM,qM];exact H
 have A:=qd D;have B:=qd C;simp only[RF.v]at A B ⊢;have n:Hid (Xb w (((w.alloc (.cells #[.string f.op,.string (BS f.text),.int .i64 f.cls,.slice f.pa f.pn f.pc,.slice f.ta f.tn f.tc,.slice f.ra f.rn f.rc] 184)).alloc (.cells #[.string g.op,.string (BS g.text),.int .i64 g.cls,.slice g.pa g.pn g.pc,.slice g.ta g.tn g.tc,.slice g.ra g.rn g.rc] 184)).alloc zoC)/\w.heap.size+1+1+1<=(((w.alloc (.cells #[.string f.op,.string (BS f.text),.int .i64 f.cls,.slice f.pa f.pn f.pc,.slice f.ta f.tn f.tc,.slice f.ra f.rn f.rc] 184)).alloc (.cells #[.string g.op,.string (BS g.text),.int .i64 g.cls,.slice g.pa g.pn g.pc,.slice g.ta g.tn g.tc,.slice g.ra g.rn g.rc] 184)).alloc zoC).heap.size):=qd ⟨(((nw.alloc nt _).alloc mx _).alloc nj _),mx⟩;clear D C H;rcases J with rfl|rfl|rfl|rfl|rfl
 all_goals go_enter func227,ntmps227
 all_goals go_wp2_with(go_at_call 227;refine(A _ n.1 n.2).mono ?_;rintro e w1⟨m,r,rfl,u⟩;have L:=qd (qf n.1 m);obtain⟨G,F⟩:=qj m;have I:∀i,w1.cell? ⟨w.heap.size+1+1,i,none⟩=(#[.string ⟨#[]⟩,.string ⟨#[]⟩,.int .i64 0,.slice none 0 0,.slice none 0 0,.slice none 0 0]:Array Value)[i]?:=(λi=>(G _ i nj).trans (by simp[go_sem]));have M:Xf w1 (w.heap.size+1+1):=(λi=>(F _ i nj).trans (by simp[go_sem]));have R:w.heap.size+1+1<w1.heap.size:=(by have:=m.size;simp at this;omega);have K:=qd u;clear m G F u)
 all_goals refine ak (by simp[go_sem,I]<;>rfl) rfl ?_
 all_goals exact q9 B r w1 _ L K (jm _ _ _ _ _ _ _ _)
def vq(o:Int):Prop:=o=6\/o=7\/o=8\/o=10\/o=11\/o=16\/o=17\/o=18\/o=19
theorem qi5(C:vq o)(u:RfAt N w x f)(n:RfAt N w y g)(F:kg x)(m:kg y)(I:∀b,N b->b<w.heap.size)(M:(xC o&&Op.bytesLess (qp y) (qp x))=false):
  nz 227 #[.string (BS (qD o)),f.v,g.v] w (xo N w (.bin (qm o) x y)):=by
 refine qre (cl:=qja o) (sw:=xC o) (T:=qp (.bin (qm o) x y)) (P:=λr w1=>RfAt (λb=>N b\/w.heap.size+1+1+1<=b) w1 (.bin (qm o) x y) r) ?_ ?_ ?_ ?_ ?_ ?_ ?_
 ·rcases C with rfl|rfl|rfl|rfl|rfl|rfl|rfl|rfl|rfl
  ·exact .inl ⟨rfl,rfl,rfl⟩
  ·exact .inr (.inl ⟨rfl,rfl,rfl⟩)
  ·exact .inr (.inr (.inl ⟨rfl,rfl,rfl⟩))
  ·exact .inr (.inr (.inr (.inl ⟨rfl,rfl,rfl⟩)))
  ·exact .inr (.inr (.inr (.inr (.inl ⟨rfl,rfl,rfl⟩))))
  ·exact .inr (.inr (.inr (.inr (.inr (.inl ⟨rfl,rfl,rfl⟩)))))
  ·exact .inr (.inr (.inr (.inr (.inr (.inr (.inl ⟨rfl,rfl,rfl⟩))))))
  ·exact .inr (.inr (.inr (.inr (.inr (.inr (.inr (.inl ⟨rfl,rfl,rfl⟩)))))))
  ·exact .inr (.inr (.inr (.inr (.inr (.inr (.inr (.inr (⟨rfl,rfl,rfl⟩))))))))
 ·rw[u.text,n.text];exact M
 ·rw[u.text];exact F.1
 ·rw[n.text];exact m.1
 ·rw[u.text,n.text]
  rcases C with rfl|rfl|rfl|rfl|rfl|rfl|rfl|rfl|rfl<;>rfl
 ·intro W A G H
  have B:=vjw (N:=λb=>N b\/b=w.heap.size+1+1+1) ((u.below A).keep (λ_ _ _=>rfl) nt (λ_ h _=>.inl h)) ((n.below A).keep (λ_ _ _=>rfl) nt (λ_ h _=>.inl h)) G H;refine(qwc o _ rfl (by rcases C with rfl|rfl|rfl|rfl|rfl|rfl|rfl|rfl|rfl<;>decide) B (.inr rfl) F m).mono ?_;rintro e w'⟨K,r,L,J⟩;exact⟨K,r,L,J.keep (λ_ _ _=>rfl) nt (λb h _=>by rcases h with(h|h)|h<;>first|exact .inl h|(right;omega))⟩
 ·intro r w1 w' A B D
  refine⟨D.bel _ _ mw A,r,rfl,D.rf B (by rintro (h|h);have:=I _ h;omega;omega) (λb h _=>by rcases h with h|h<;>first|exact .inl h|(right;omega))⟩
theorem kS(B:vq o)(A:RfAt N w x f)(u:RfAt N w y g)(F:kg x)(n:kg y)(C:∀b,N b->b<w.heap.size):
  nz 227 #[.string (BS (qD o)),f.v,g.v] w (xo N w (qk o x y)):=by
 unfold qk
 by_cases h:(xC o&&Op.bytesLess (qp y) (qp x))=true
 ·rw[bh h]
  have R:=h;rw[cn]at h;refine qrf (P:=λr w1=>RfAt (λb=>N b\/w.heap.size+1+1+1<=b) w1 (.bin (qm o) y x) r) ?_ ?_ ?_ ?_
  ·rcases B with rfl|rfl|rfl|rfl|rfl|rfl|rfl|rfl|rfl
   ·exact .inl rfl
   ·exact .inr (.inl rfl)
   ·exact .inr (.inr (.inl rfl))
   ·exact absurd h.1 nh
   ·exact absurd h.1 nh
   ·exact .inr (.inr (.inr (.inl rfl)))
   ·exact absurd h.1 nh
   ·exact .inr (.inr (.inr (.inr (rfl))))
   ·exact absurd h.1 nh
  ·rw[A.text,u.text];exact h.2
  ·intro W m M
   have K:(xC o&&Op.bytesLess (qp x) (qp y))=false:=by
    cases hq:Op.bytesLess (qp x) (qp y) with
    | false=>exact fj _
    | true=>exact absurd h.2 (by rw[qku hq];decide)
   refine(qi5 B (u.below m) (A.below m) n F (λb L=>bg (C b L) m.size) K).mono ?_;rintro e w'⟨I,r,J,H⟩;exact⟨I,r,J,H.keep (λ_ _ _=>rfl) nt (λb h _=>by rcases h with h|h<;>first|exact .inl h|(right;omega))⟩
  ·intro r w1 w' m G D
   refine⟨D.bel _ _ mw m,r,rfl,D.rf G (by rintro (h|h);have:=C _ h;omega;omega) (λb h _=>by rcases h with h|h<;>first|exact .inl h|(right;omega))⟩
 ·rw[aj h]
  exact qi5 B A u F n C (by simpa using h)
end
section
abbrev rfC(f:RF):Array Value:=#[.string f.op,.string (BS f.text),.int .i64 f.cls,.slice f.pa f.pn f.pc,.slice f.ta f.tn f.tc,.slice f.ra f.rn f.rc]
abbrev zrC:Array Value:=#[.string ⟨#[]⟩,.string ⟨#[]⟩,.int .i64 0,.slice none 0 0,.slice none 0 0,.slice none 0 0]
theorem qg2(e:(∀i,W.cell? ⟨q,i,none⟩=zrC[i]?)/\(Xf W q)/\q<W.heap.size)(m:Xb W w1)(n:Xb w W):(∀i,w1.cell? ⟨q,i,none⟩=zrC[i]?)/\(Xf w1 q)/\q<w1.heap.size/\Xb w w1:=
 ⟨λi=>((qj m).1 _ i e.2.2).trans (e.1 i),λi=>((qj m).2 _ i e.2.2).trans (e.2.1 i),bg e.2.2 m.size,qf n m⟩
theorem vev(w:World)(a:Array Value):Xb w ((w.alloc (.cells a 184)).alloc (.cells zrC 184))/\(∀i,((w.alloc (.cells a 184)).alloc (.cells zrC 184)).cell? ⟨w.heap.size+1,i,none⟩=zrC[i]?)/\(∀i,((w.alloc (.cells a 184)).alloc (.cells zrC 184)).frozen? ⟨w.heap.size+1,i,none⟩=false)/\w.heap.size+1<((w.alloc (.cells a 184)).alloc (.cells zrC 184)).heap.size:=
 ⟨(nw.alloc nt _).alloc mx _,λi=>cd _ _ _ _ mx,λi=>im _ _ _ _ mx,mx⟩
theorem qhq(hK:((f.op.toList==[78,79,84])=false/\(f.op.toList==[65,78,68])=false/\(f.op.toList==[79,82])=false/\(f.op.toList==[60])=false/\(f.op.toList==[60,61])=false/\(f.op.toList==[84,82,85,69])=false/\(f.op.toList==[70,65,76,83,69])=false)\/∃pb cap cl,f.op=⟨#[78,79,84]⟩/\f.pa=some ⟨pb,0,none⟩/\f.pn=1/\f.pc=cap/\pb<w.heap.size/\w.cell? ⟨pb,2,none⟩=some (.int .i64 cl)/\(cl==1)=false)(u:f.text.length<=400000000)(D:T=[40,78,79,84,32]++f.text++[41])
   (L:∀W,Xb w W->w.heap.size+1+1<W.heap.size->(∀k,k<6->W.cell? ⟨w.heap.size+1+1,k,none⟩=(qt f)[k]?) ->
   nz 229 #[.string ⟨#[78,79,84]⟩,.string (BS T),.int .i64 1,.slice (some ⟨w.heap.size+1+1,0,none⟩) 1 1,.int .i64 0] W λe w'=>Xb W w'/\∃r:RF,e=.returned r.v/\P r w')  (K:∀r w1 w',Xb w w1->P r w1->SixAt (w.heap.size+1) w1 w'->Q (.returned r.v) w'):nz 179 #[f.v] w Q:=by
 obtain⟨R1,I,A,a1⟩:=jg ⟨#[40,78,79,84,32]⟩ (BS f.text) 5 400000000 nt (by rw[qG];exact u) nh;obtain⟨R2,H,R,a2⟩:=jg R1 ⟨#[41]⟩ 400000005 1 A nt nh
 have F:BS T=R2:=by
  rw[D,H,I,show(⟨#[40,78,79,84,32]⟩:mu)=BS [40,78,79,84,32] from rfl,show(⟨#[41]⟩:mu)=BS [41] from rfl,jh,jh]
 have m:Hid (nz _ _ (((w.alloc (.cells (rfC f) 184)).alloc (.cells zrC 184)).alloc (.cells (rfC f) 184)) _):=qd (L _ (((nw.alloc nt _).alloc mx _).alloc nj _) mx (λk hk=>by rw[cd _ _ _ _ mx];simp[qt]));have n:=qd (vev w (rfC f));rw[F]at m;have J:=qd K;simp only[RF.v]at m J ⊢;clear L K u D F I H A R;rcases hK with⟨k0,k1,k2,k3,k4,k5,k6⟩|⟨pb,cap,cl,h0,Z,U,X,V7,c2,C⟩
 all_goals
  first|(have np:¬pb=w.heap.size:=mw;have iH:¬pb=w.heap.size+1:=mw;simp only[rfC,h0,Z,U,X]at m n ⊢)|skip
  go_enter func179,ntmps179
  go_wp2_with(go_at_call 229;refine m.mono ?_;rintro e w1⟨M,r,rfl,B⟩;obtain⟨Y,rz,rl,G⟩:=qg2 n.2 (qf (nw.alloc nt _) M) n.1;have C9:=qd G;have Q9:=qd B;clear M G B)
  refine ak (by simp[go_sem,Y]<;>rfl) rfl ?_;exact q9 J r w1 _ C9 Q9 (jm _ _ _ _ _ _ _ _)
theorem qw4(D:f.op=⟨#[78,79,84]⟩)(B:f.pa=some ⟨pb,0,none⟩)(u:f.pn=1)(A:f.pc=cap)(H:pb<w.heap.size)(C:∀k,k<6->w.cell? ⟨pb,k,none⟩=(qt g)[k]?)(e:g.cls=1)
   (n:∀w',Xb w w'->Q (.returned g.v) w'):nz 179 #[f.v] w Q:=by
 simp only[qt,e]at C;have F:¬pb=w.heap.size:=mw;have G:¬pb=w.heap.size+1:=mw;have m:=qd n;simp only[RF.v]at m ⊢;rw[D,B,u,A];rw[e]at m;clear n e;go_enter func179,ntmps179
 go_wp2_with fail
 refine nx ?_;exact q9 m _ ((nw.alloc nt _).alloc mx _)
theorem qw2(ho:(O1=⟨#[65,78,68]⟩/\O2=⟨#[79,82]⟩)\/(O1=⟨#[79,82]⟩/\O2=⟨#[65,78,68]⟩))(L:f.op=O1)(I:f.pa=some ⟨pb,0,none⟩)(G:f.pn=2)(H:f.pc=cap)(V7:pb<w.heap.size)(K:∀k,k<12->w.cell? ⟨pb,k,none⟩=(qt g++qt h)[k]?)
  {P1 P2 P3:RF->World->Prop} (H1:∀W,Xb w W->w.heap.size+1+1<=W.heap.size->nz 179 #[g.v] W λe w'=>Xb W w'/\∃r:RF,e=.returned r.v/\P1 r w')
  (H2:∀W,Xb w W->w.heap.size+1+1<=W.heap.size->nz 179 #[h.v] W λe w'=>Xb W w'/\∃r:RF,e=.returned r.v/\P2 r w')
  (H3:∀W w1 n u A,Xb w W->P1 u w1->Xb w1 n->P2 A n->Xb n W->w.heap.size+1+1<=w1.heap.size->nz 227 #[.string O2,u.v,A.v] W λe w'=>Xb W w'/\∃r:RF,e=.returned r.v/\P3 r w')
   (HQ:∀r w1 w',Xb w w1->P3 r w1->SixAt (w.heap.size+1) w1 w'->Q (.returned r.v) w'):nz 179 #[f.v] w Q:=by
 simp only[qt,cm,ej]at K;have np:¬pb=w.heap.size:=mw;have iH:¬pb=w.heap.size+1:=mw;have D1:=qd H1;have D2:=qd H2;have D3:=qd H3;have Z:=qd HQ;simp only[RF.v]at D1 D2 D3 Z ⊢;rw[L,I,G,H];clear HQ H1 H2 H3 L I G H;have D:=qd (vev w #[.string O1,.string (BS f.text),.int .i64 f.cls,.slice (some ⟨pb,0,none⟩) 2 cap,.slice f.ta f.tn f.tc,.slice f.ra f.rn f.rc]);rcases ho with⟨rfl,rfl⟩|⟨rfl,rfl⟩
 all_goals
  go_enter func179,ntmps179
  go_wp2_with(first|(go_at_call 227;refine(D3 _ w1 n u A t8 M Y F (nw.alloc nt _) B9).mono ?_;rintro e w5⟨J,r,rfl,R⟩;obtain⟨r0,rz,rl,m⟩:=qg2 Z2 (qf (nw.alloc nt _) J) F9;have P6:=qd m;have Q9:=qd R;clear J m R)|(go_at_call 179;have _q:=M;refine(D2 _ UG my).mono ?_;rintro e n⟨B,A,rfl,X⟩;have Y:=qd (qf ((Below.refl w1.heap.size w1).alloc nt _) B);obtain⟨t0,t1,t2,m⟩:=qg2 Z1 Y C9;have Z2:=qd (And.intro t0 (And.intro t1 t2));have F9:=qd m;have t8:=qd (m.alloc m.size (.cells (rfC A) 184));have F:=qd X;have D8:w1.heap.size+1<=n.heap.size:=(by have:=B.size;simp at this;omega);have v:∀i,n.cell? ⟨w1.heap.size,i,none⟩=(rfC u)[i]?:=(λi=>((qj B).1 _ i mx).trans mx);have nr1:¬w1.heap.size=n.heap.size:=mw;have VL:w1.heap.size<n.heap.size:=mw;have nr3:¬w.heap.size+1=n.heap.size:=mw;have nr4:w.heap.size+1<n.heap.size:=mw;clear B X m)|(go_at_call 179;refine(D1 _ D.1 mx).mono ?_;rintro e w1⟨C,u,rfl,U⟩;have M:=qd U;obtain⟨s0,s1,s2,m⟩:=qg2 D.2 C D.1;have Z1:=qd (And.intro s0 (And.intro s1 s2));have C9:=qd m;have UG:=qd (m.alloc m.size (.cells (rfC u) 184));have B9:w.heap.size+1+1<=w1.heap.size:=(by have:=C.size;simp at this;omega);have f3:Xc w1 w.heap.size 3 (.slice (some ⟨pb,0,none⟩) 2 cap):=((qj C).1 _ 3 my).trans (by simp[go_sem]);have d:∀k,k<12->w1.cell? ⟨pb,k,none⟩=_:=(λk hk=>(m.cell (p:=⟨pb,k,none⟩) V7).trans (K k hk));have np3:pb<w1.heap.size:=mw;have nq1:¬w.heap.size=w1.heap.size:=mw;have nq2:w.heap.size<w1.heap.size:=mw;have nq3:¬w.heap.size+1=w1.heap.size:=mw;have nq4:w.heap.size+1<w1.heap.size:=mw;have np4:¬pb=w1.heap.size:=mw;clear C U m))
  refine ak (by simp[go_sem,r0]<;>rfl) rfl ?_;exact q9 Z r w5 _ P6 Q9 (jm _ _ _ _ _ _ _ _)
end
section
theorem qw3(ho:(O1=⟨#[60]⟩/\O2=⟨#[60,61]⟩)\/(O1=⟨#[60,61]⟩/\O2=⟨#[60]⟩))(H:f.op=O1)(F:f.pa=some ⟨pb,0,none⟩)(C:f.pn=2)(D:f.pc=cap)(u:pb<w.heap.size)(m:∀k,k<12->w.cell? ⟨pb,k,none⟩=(qt g++qt h)[k]?)
   (L:∀W,Xb w W->w.heap.size+1+1<=W.heap.size->nz 227 #[.string O2,h.v,g.v] W λe w'=>Xb W w'/\∃r:RF,e=.returned r.v/\P r w')
   (K:∀r w1 w',Xb w w1->P r w1->SixAt (w.heap.size+1) w1 w'->Q (.returned r.v) w'):nz 179 #[f.v] w Q:=by
 have c0:Xc w pb 0 (.string g.op):=m 0 mw;have c1:Xc w pb 1 (.string (BS g.text)):=m 1 mw;have c2:Xc w pb 2 (.int .i64 g.cls):=m 2 mw;have c3:Xc w pb 3 (.slice g.pa g.pn g.pc):=m 3 mw;have c4:Xc w pb 4 (.slice g.ta g.tn g.tc):=m 4 mw;have c5:Xc w pb 5 (.slice g.ra g.rn g.rc):=m 5 mw;have c6:Xc w pb 6 (.string h.op):=m 6 mw;have c7:Xc w pb 7 (.string (BS h.text)):=m 7 mw;have c8:Xc w pb 8 (.int .i64 h.cls):=m 8 mw;have c9:Xc w pb 9 (.slice h.pa h.pn h.pc):=m 9 mw;have AY:Xc w pb 10 (.slice h.ta h.tn h.tc):=m 10 mw;have AX:Xc w pb 11 (.slice h.ra h.rn h.rc):=m 11 mw;have np:¬pb=w.heap.size:=mw;have iH:¬pb=w.heap.size+1:=mw;have oR:¬w.heap.size+1=pb:=mw;have R:=qd L;have J:=qd K;simp only[RF.v]at R J ⊢;rw[H,F,C,D];clear K L m H F C D;have I:Hid (Xb w ((w.alloc (.cells #[.string O1,.string (BS f.text),.int .i64 f.cls,.slice (some ⟨pb,0,none⟩) 2 cap,.slice f.ta f.tn f.tc,.slice f.ra f.rn f.rc] 184)).alloc zoC)):=qd ((nw.alloc nt _).alloc mx _);rcases ho with⟨rfl,rfl⟩|⟨rfl,rfl⟩
 all_goals
  go_enter func179,ntmps179
  go_wp2_with fail
  go_region_held3 (λW=>Xc W w.heap.size 3 (.slice (some ⟨pb,0,none⟩) 2 cap)/\Kx2 W pb g h) (first|with_reducible assumption|(simp only[Kx2];go_keep)) ((go_at_call 227;refine(R _ I.drew (by show _<=((w.alloc _).alloc _).heap.size;simp)).mono ?_;rintro e w1⟨B,r,rfl,G⟩;have n:=qd (qf I.drew B);obtain⟨A,M⟩:=qj B;have r0:Xc w1 (w.heap.size+1) 0 (.string ⟨#[]⟩):=(A _ 0 (by show _<((w.alloc _).alloc _).heap.size;simp)).trans (by show((w.alloc _).alloc _).cell? _=_;simp[go_sem]);have r1:Xc w1 (w.heap.size+1) 1 (.string ⟨#[]⟩):=(A _ 1 (by show _<((w.alloc _).alloc _).heap.size;simp)).trans (by show((w.alloc _).alloc _).cell? _=_;simp[go_sem]);have Z:Xc w1 (w.heap.size+1) 2 (.int .i64 0):=(A _ 2 (by show _<((w.alloc _).alloc _).heap.size;simp)).trans (by show((w.alloc _).alloc _).cell? _=_;simp[go_sem]);have Y:Xc w1 (w.heap.size+1) 3 (.slice none 0 0):=(A _ 3 (by show _<((w.alloc _).alloc _).heap.size;simp)).trans (by show((w.alloc _).alloc _).cell? _=_;simp[go_sem]);have X:Xc w1 (w.heap.size+1) 4 (.slice none 0 0):=(A _ 4 (by show _<((w.alloc _).alloc _).heap.size;simp)).trans (by show((w.alloc _).alloc _).cell? _=_;simp[go_sem]);have U:Xc w1 (w.heap.size+1) 5 (.slice none 0 0):=(A _ 5 (by show _<((w.alloc _).alloc _).heap.size;simp)).trans (by show((w.alloc _).alloc _).cell? _=_;simp[go_sem]);have rz:Xf w1 (w.heap.size+1):=(λi=>(M _ i (by show _<((w.alloc _).alloc _).heap.size;simp)).trans (by show((w.alloc _).alloc _).frozen? _=_;simp[go_sem]));have rl:w.heap.size+1<w1.heap.size:=(by have:=B.size;change ((w.alloc _).alloc _).heap.size<=_ at this;simp at this;omega);have hS:(Xc w1 w.heap.size 3 (.slice (some ⟨pb,0,none⟩) 2 cap)/\Kx2 w1 pb g h):=⟨(A _ 3 (by show _<((w.alloc _).alloc _).heap.size;simp;omega)).trans (by show((w.alloc _).alloc _).cell? _=_;simp[go_sem]),(n.cell (p:=⟨pb,0,none⟩) u).trans c0,(n.cell (p:=⟨pb,1,none⟩) u).trans c1,(n.cell (p:=⟨pb,2,none⟩) u).trans c2,(n.cell (p:=⟨pb,3,none⟩) u).trans c3,(n.cell (p:=⟨pb,4,none⟩) u).trans c4,(n.cell (p:=⟨pb,5,none⟩) u).trans c5,(n.cell (p:=⟨pb,6,none⟩) u).trans c6,(n.cell (p:=⟨pb,7,none⟩) u).trans c7,(n.cell (p:=⟨pb,8,none⟩) u).trans c8,(n.cell (p:=⟨pb,9,none⟩) u).trans c9,(n.cell (p:=⟨pb,10,none⟩) u).trans AY,(n.cell (p:=⟨pb,11,none⟩) u).trans AX⟩;have Q9:=qd G;clear B A M G))
  go_wp2_with fail
  refine ak (by simp[go_sem,r0,r1,Z,Y,X,U]<;>rfl) rfl ?_;exact q9 J r w1 _ n Q9 (jm _ _ _ _ _ _ _ _)
theorem qhp(U:(O1=⟨#[84,82,85,69]⟩/\O2=⟨#[70,65,76,83,69]⟩)\/(O1=⟨#[70,65,76,83,69]⟩/\O2=⟨#[84,82,85,69]⟩))(A:f.op=O1)
   (F:∀W,Xb w W->w.heap.size+1+1<=W.heap.size->nz 224 #[.string O2,.string O2,.int .i64 1,.int .i64 0] W λe w'=>Xb W w'/\∃r:RF,e=.returned r.v/\P r w')
   (D:∀r w1 w',Xb w w1->P r w1->SixAt (w.heap.size+1) w1 w'->Q (.returned r.v) w'):nz 179 #[f.v] w Q:=by
 have H:=qd F;have C:=qd D;simp only[RF.v]at H C ⊢;rw[A];clear D F A;have B:Hid (Xb w ((w.alloc (.cells #[.string O1,.string (BS f.text),.int .i64 f.cls,.slice f.pa f.pn f.pc,.slice f.ta f.tn f.tc,.slice f.ra f.rn f.rc] 184)).alloc zoC)):=qd ((nw.alloc nt _).alloc mx _);rcases U with⟨rfl,rfl⟩|⟨rfl,rfl⟩
 all_goals
  go_enter func179,ntmps179
  go_wp2_with(go_at_call 224;refine(H _ B mx).mono ?_;rintro e w1⟨n,r,rfl,u⟩;have Y:=qd (qf B n);obtain⟨m,G⟩:=qj n;have R:Xc w1 (w.heap.size+1) 0 (.string ⟨#[]⟩):=(m _ 0 mx).trans (by simp[go_sem]);have M:Xc w1 (w.heap.size+1) 1 (.string ⟨#[]⟩):=(m _ 1 mx).trans (by simp[go_sem]);have L:Xc w1 (w.heap.size+1) 2 (.int .i64 0):=(m _ 2 mx).trans (by simp[go_sem]);have K:Xc w1 (w.heap.size+1) 3 (.slice none 0 0):=(m _ 3 mx).trans (by simp[go_sem]);have J:Xc w1 (w.heap.size+1) 4 (.slice none 0 0):=(m _ 4 mx).trans (by simp[go_sem]);have I:Xc w1 (w.heap.size+1) 5 (.slice none 0 0):=(m _ 5 mx).trans (by simp[go_sem]);have Z:Xf w1 (w.heap.size+1):=(λi=>(G _ i mx).trans (by simp[go_sem]));have rl:w.heap.size+1<w1.heap.size:=(by have:=n.size;simp at this;omega);have X:=qd u;clear n m G u)
  refine ak (by simp[go_sem,R,M,L,K,J,I]<;>rfl) rfl ?_;exact q9 C r w1 _ Y X (jm _ _ _ _ _ _ _ _)
end
section
def Tb(c:Co):Prop:=opC c=0\/qja (opC c)=1
def WT:Co->Prop
 | .leaf p=>0<=p.op/\p.op<=4
 | .un p x=>(p.op=5\/p.op=22\/p.op=23)/\(p.op=5->Tb x)/\WT x
 | .bin p x y=>vq p.op/\(p.op=6\/p.op=7->Tb x/\Tb y)/\WT x/\WT y
theorem WT.wf:∀{c:Co},WT c->WfC c
 | .leaf p,h=>by
  obtain⟨op,a,b,d⟩:=p;have n:0<=op:=h.1;have m:op<=4:=h.2;show vY op=true;rcases(show op=0\/op=1\/op=2\/op=3\/op=4 by omega) with rfl|rfl|rfl|rfl|rfl<;>rfl
 | .un p x,h=>by
  obtain⟨op,a,b,d⟩:=p;refine⟨?_,WT.wf h.2.2⟩;show unB op=true;rcases h.1 with e|e|e<;>(simp only at e;subst e;rfl)
 | .bin p x y,h=>by
  obtain⟨op,a,b,d⟩:=p;refine⟨?_,WT.wf h.2.2.1,WT.wf h.2.2.2⟩;show qph op=true;rcases h.1 with e|e|e|e|e|e|e|e|e<;>(simp only at e;subst e;rfl)
theorem kT(o:Int)(x y:Co):(qB (qk o x y)).length=(qB x).length+(qB y).length+1:=by
 unfold qk
 split<;>simp[qB]<;>omega
theorem qxr:∀c,(qB (qW c)).length<=(qB c).length+uC c:=by
 intro c
 induction c with
 | leaf p=>unfold qW;split<;>(try split)<;>simp[qB,uC]
 | un p x ih=>
  have:=qp4 x;unfold qW
  split
  ·simp[qB,uC];omega
  ·simp[qB,uC];omega
 | bin p x y ihx ihy=>
  have m:=qp4 x;have e:=qp4 y;unfold qW
  by_cases h6:(p.op==6)=true
  ·rw[bh h6,kT];simp[qB,uC,h6];omega
  ·rw[aj h6]
   by_cases h7:(p.op==7)=true
   ·rw[bh h7,kT];simp[qB,uC,h7];omega
   ·rw[aj h7]
    by_cases L1:(p.op==10)=true
    ·rw[bh L1,kT];simp[qB];omega
    ·rw[aj L1]
     by_cases M8:(p.op==11)=true
     ·rw[bh M8,kT];simp[qB];omega
     ·rw[aj M8];simp[qB,uC,h6,h7];omega
def SzC(c:Co):Prop:=(qp c).length+7 * uC c<=400000000/\(qB c).length+uC c<=400000000
theorem SzC.big(h:SzC c):kg c:=⟨by have:=h.1;omega,by have:=h.2;omega⟩
theorem SzC.not(h:SzC c)(e:WT c):kg (qW c):=⟨by have:=h.1;have:=za c e.wf;omega,by have:=h.2;have:=qxr c;omega⟩
theorem xw(u:∀b,N b->b<w.heap.size)(n:Xb w w1)(m:RfAt (λb=>N b\/w.heap.size+1+1<=b) w1 c r)(e:SixAt (w.heap.size+1) w1 w'):xo N w c (.returned r.v) w':=
 ⟨e.bel _ _ mw n,r,rfl,e.rf m (by rintro (h|h);have:=u _ h;omega;omega) (λb h _=>by rcases h with h|h<;>first|exact .inl h|(right;omega))⟩
theorem gw{e:Ending}(A:w.heap.size+1+1<=W.heap.size)(h:xo N W c e w'):Xb W w'/\∃r:RF,e=.returned r.v/\RfAt (λb=>N b\/w.heap.size+1+1<=b) w' c r:=by
 obtain⟨n,r,u,m⟩:=h;exact⟨n,r,u,m.keep (λ_ _ _=>rfl) nt (λb h _=>by rcases h with h|h<;>first|exact .inl h|(right;omega))⟩
theorem qm6{o:Nat}{A e u:Value}(h:SideAt w b o c A e u)(B:RcAt N w c A e u):∃f:RF,RfAt N w c f/\∀k,k<6->w.cell? ⟨b,o+k,none⟩=(qt f)[k]?:=by
 obtain⟨⟨a,n,k,rfl⟩,⟨C,m,l,rfl⟩,d,p,q,rfl⟩:=B.slices;exact⟨⟨_,qp c,_,a,n,k,C,m,l,d,p,q⟩,⟨rfl,rfl,rfl,B⟩,h⟩
theorem RfAt.one{p:CP}(h:RfAt N w (.un p x) f):∃pb g,f.pa=some ⟨pb,0,none⟩/\f.pn=1/\pb<w.heap.size/\RfAt N w x g/\∀k,k<6->w.cell? ⟨pb,k,none⟩=(qt g)[k]?:=by
 obtain⟨⟨b,cap,I,G,H,e,_,F,n,m⟩,_⟩:=h.at';obtain⟨g,A,B⟩:=qm6 n m;injection e with D C _;exact⟨b,g,D,C,F,A,λk u=>by have:=B k u;rwa [ee]at this⟩
theorem RfAt.two{p:CP}(h:RfAt N w (.bin p x y) f):∃pb g k,f.pa=some ⟨pb,0,none⟩/\f.pn=2/\pb<w.heap.size/\RfAt N w x g/\RfAt N w y k/\∀i,i<12->w.cell? ⟨pb,i,none⟩=(qt g++qt k)[i]?:=by
 obtain⟨⟨b,cap,U,K,M,R,J,L,e,_,I,u,n,G,m⟩,_⟩:=h.at';obtain⟨g,B,C⟩:=qm6 u n;obtain⟨k,A,H⟩:=qm6 G m;injection e with F D _;refine⟨b,g,k,F,D,I,B,A,λi X=>?_⟩
 by_cases h6:i<6
 ·rw[bw (by exact h6)];have:=C i h6;rwa [ee]at this
 ·rw[cj (by show 6<=i;omega)]
  have:=H (i - 6) mw;rwa [show 6+(i - 6)=i by omega]at this
theorem qhx(p:CP)(m:PartsAt N w (.slice (some ⟨pb,0,none⟩) 1 cap) [x])(G:N pb)(D:kg x):
  nz 229 #[.string (BS (qD p.op)),.string (BS (qp (.un p x))),.int .i64 (qja p.op),.slice (some ⟨pb,0,none⟩) 1 cap,.int .i64 (qa0 p:Nat)] w (xo N w (.un p x)):=by
 have:=qhy (BS (qD p.op)) (qp (.un p x)) (qja p.op) (qa0 p) m mx (by have:=D.2;simp;omega);refine this.mono ?_;rintro e w'⟨n,tv,rv,rfl,I,H⟩;refine RcEnds.rf ⟨n,_,tv,rv,rfl, ?_⟩;obtain⟨b,cap',e,L,F⟩:=m.below n;obtain⟨C,u,B,A,K⟩:=F 0 x rfl;have J:pb=b:=by injection e with e;injection e with e;injection e
 refine⟨⟨b,cap',C,u,B,e,.inl (J ▸ G),L,A,K.mono (λ_ h _=>.inl h)⟩, ?_, ?_⟩
 ·have:=I.keep (N':=λb=>N b\/w.heap.size<=b) (λ_ _ _=>rfl) nt (λ_ h _=>.inr h)
  simpa [qB]using this
 ·have:=H.keep (N':=λb=>N b\/w.heap.size<=b) (λ_ _ _=>rfl) nt (λ_ h _=>.inr h)
  simpa [jJ]using this
def qiu(c:Co):Prop:=∀(N:Nat->Prop) (w:World) (f:RF),RfAt N w c f->(∀b,N b->b<w.heap.size)->Calls prog 179 #[f.v] w (xo N w (qW c))
theorem vdv(u:RfAt N w c f)(B:kg c):∀W,Xb w W->w.heap.size+1+1<W.heap.size->(∀k,k<6->W.cell? ⟨w.heap.size+1+1,k,none⟩=(qt f)[k]?) ->
   nz 229 #[.string ⟨#[78,79,84]⟩,.string (BS (qp (.un (qm 5) c))),.int .i64 1,.slice (some ⟨w.heap.size+1+1,0,none⟩) 1 1,.int .i64 0] W λe w'=>Xb W w'/\∃r:RF,e=.returned r.v/\RfAt (λb=>N b\/w.heap.size+1+1<=b) w' (.un (qm 5) c) r:=by
 intro W G m A;have n:=vec (N:=λb=>N b\/b=w.heap.size+1+1) (cap:=1) ((u.below G).keep (λ_ _ _=>rfl) nt (λ_ h _=>.inl h)) m A;refine(qhx (qm 5) n (.inr rfl) B).mono ?_;rintro e w'⟨D,r,F,C⟩;exact⟨D,r,F,C.keep (λ_ _ _=>rfl) nt (λb h _=>by rcases h with(h|h)|h<;>first|exact .inl h|(right;omega))⟩
theorem qn1(e:RfAt N w c f):qp (.un (qm 5) c)=[40,78,79,84,32]++f.text++[41]:=by
 rw[e.text];rfl
theorem zH(o:Int)(u:kg c)(A:qW c=.un (qm 5) c)(H:opC c=o)(m:∀n∈[[78,79,84],[65,78,68],[79,82],[60],[60,61],[84,82,85,69],[70,65,76,83,69]],(qD o==n)=false):qiu c:=by
 intro N w f e C;rw[A];rw[←H]at m;have key:∀n∈[[78,79,84],[65,78,68],[79,82],[60],[60,61],[84,82,85,69],[70,65,76,83,69]],(f.op.toList==n)=false:=λn B=>by rw[e.op,qM];exact m n B
 refine qhq (.inl ⟨key _ mx,key _ mx,key _ mx,key _ mx,key _ mx,key _ mx,key _ mx⟩) (by rw[e.text];exact u.1) (qn1 e) (vdv e u) ?_;intro r w1 w' G F D;exact xw C G F D
theorem gu:∀c,WT c->Tb c->SzC c->qiu c:=by
 intro c
 induction c with
 | leaf p=>
  intro B ht m;obtain⟨op,u,st,es⟩:=p;have h1:0<=op:=B.1;have h2:op<=4:=B.2;rcases(show op=0\/op=1\/op=2\/op=3\/op=4 by omega) with rfl|rfl|rfl|rfl|rfl
  ·exact zH 0 m.big rfl rfl nh
  ·exact zH 1 m.big rfl rfl nh
  ·exact zH 2 m.big rfl rfl nh
  ·intro N w f n D
   refine qhp (P:=λr w1=>RfAt (λb=>N b\/w.heap.size+1+1<=b) w1 (.leaf (qm 4)) r) (.inl ⟨rfl,rfl⟩) n.op ?_ (λr w1 w'=>xw D);intro W A G;exact(kv N (qm 4) W).mono λe w' h=>gw G h.rf
  ·intro N w f n D
   refine qhp (P:=λr w1=>RfAt (λb=>N b\/w.heap.size+1+1<=b) w1 (.leaf (qm 3)) r) (.inr ⟨rfl,rfl⟩) n.op ?_ (λr w1 w'=>xw D);intro W A G;exact(kv N (qm 3) W).mono λe w' h=>gw G h.rf
 | un p x ih=>
  intro B ht m;obtain⟨op,u,st,es⟩:=p;rcases B.1 with e|e|e
  ·simp only at e
   subst e
   by_cases Z4:opC x=0
   ·intro N w f n D
    obtain⟨pb,g,K,J,M,H,I⟩:=n.one;have L:qW (.un ⟨5,u,st,es⟩ x)=.un (qm 5) (.un ⟨5,u,st,es⟩ x):=by simp[qW,Z4]
    rw[L];refine qhq (.inr ⟨_,_,g.cls,n.op,K,J,rfl,M,I 2 mw,by rw[H.cls,Z4];decide⟩) (by rw[n.text];exact m.big.1) (qn1 n) (vdv n m.big) (λr w1 w'=>xw D)
   ·intro N w f n D
    obtain⟨pb,g,K,J,M,H,I⟩:=n.one;have L:qW (.un ⟨5,u,st,es⟩ x)=x:=by simp[qW,Z4]
    rw[L];have O5:g.cls=1:=by rw[H.cls];exact((B.2.1 rfl).resolve_left Z4)
    refine qw4 n.op K J rfl M I O5 ?_;intro w' A;exact⟨A,g,rfl,(H.below A).keep (λ_ _ _=>rfl) nt (λ_ h _=>.inl h)⟩
  ·simp only at e
   subst e;exact zH 22 m.big rfl rfl nh
  ·simp only at e
   subst e;exact zH 23 m.big rfl rfl nh
 | bin p x y ihx ihy=>
  intro B ht m;obtain⟨op,u,st,es⟩:=p
  have logic:∀C,(op=6/\C=7\/op=7/\C=6)->qW (.bin ⟨op,u,st,es⟩ x y)=qk C (qW x) (qW y)->qiu (.bin ⟨op,u,st,es⟩ x y):=by
   intro C R L N w f n D;rw[L];obtain⟨pb,g,k,K,J,M,H,hk,I⟩:=n.two;obtain⟨tx,ty⟩:=B.2.1 (by rcases R with h|h;exact .inl h.1;exact .inr h.1);have Y:uC (.bin ⟨op,u,st,es⟩ x y)=uC x+uC y:=by rcases R with⟨h,_⟩|⟨h,_⟩<;>subst h<;>rfl
   have X:(qp (.bin ⟨op,u,st,es⟩ x y)).length=(qp x).length+(qp y).length+4+(jo op).length:=jv (p:=⟨op,u,st,es⟩) B.wf.1 x y;have U:(qB (.bin ⟨op,u,st,es⟩ x y)).length=(qB x).length+(qB y).length+1:=by simp[qB];omega
   have zx:SzC x:=⟨by have:=m.1;rw[Y,X]at this;omega,by have:=m.2;rw[Y,U]at this;omega⟩;have zy:SzC y:=⟨by have:=m.1;rw[Y,X]at this;omega,by have:=m.2;rw[Y,U]at this;omega⟩;refine qw2 (O2:=BS (qD C)) (P1:=λr w1=>RfAt (λb=>N b\/w.heap.size+1+1<=b) w1 (qW x) r) (P2:=λr w1=>RfAt (λb=>N b\/w.heap.size+1+1<=b) w1 (qW y) r) (P3:=λr w1=>RfAt (λb=>N b\/w.heap.size+1+1<=b) w1 (qk C (qW x) (qW y)) r) ?_ n.op K J rfl M I ?_ ?_ ?_ (λr w1 w'=>xw D)
   ·rcases R with⟨h,F⟩|⟨h,F⟩<;>subst h F
    ·exact .inl ⟨rfl,rfl⟩
    ·exact .inr ⟨rfl,rfl⟩
   ·intro W A G
    exact(ihx B.2.2.1 tx zx N W g (H.below A) (λb h=>bg (D b h) A.size)).mono λe w' h=>gw G h
   ·intro W A G
    exact(ihy B.2.2.2 ty zy N W k (hk.below A) (λb h=>bg (D b h) A.size)).mono λe w' h=>gw G h
   ·intro W w1 w2 g1 g2 A h1 GO h2 A3 B9
    have q1:RfAt (λb=>(N b\/w.heap.size+1+1<=b)/\b<W.heap.size) W (qW x) g1:=(h1.below (qf GO A3)).keep (λ_ _ _=>rfl) nt (λb h Z=>⟨h,Z⟩);have q2:RfAt (λb=>(N b\/w.heap.size+1+1<=b)/\b<W.heap.size) W (qW y) g2:=(h2.below A3).keep (λ_ _ _=>rfl) nt (λb h Z=>⟨h,Z⟩);refine(kS (by rcases R with⟨_,F⟩|⟨_,F⟩<;>subst F<;>simp[vq]) q1 q2 (zx.not B.2.2.1) (zy.not B.2.2.2) (λb h=>h.2)).mono ?_;rintro e w'⟨h3,r,e3,h4⟩;have hzW:w1.heap.size<=W.heap.size:=bs GO.size A3.size;exact⟨h3,r,e3,h4.keep (λ_ _ _=>rfl) nt (λb h _=>by rcases h with h|h;exact h.1;right;omega)⟩
  have less:∀C,(op=10/\C=11\/op=11/\C=10)->qW (.bin ⟨op,u,st,es⟩ x y)=qk C y x->qiu (.bin ⟨op,u,st,es⟩ x y):=by
   intro C R L N w f n D;rw[L];obtain⟨pb,g,k,K,J,M,H,hk,I⟩:=n.two;have X:(qp (.bin ⟨op,u,st,es⟩ x y)).length=(qp x).length+(qp y).length+4+(jo op).length:=jv (p:=⟨op,u,st,es⟩) B.wf.1 x y;have U:(qB (.bin ⟨op,u,st,es⟩ x y)).length=(qB x).length+(qB y).length+1:=by simp[qB];omega
   have bx:kg x:=⟨by have:=m.1;rw[X]at this;omega,by have:=m.2;rw[U]at this;omega⟩;have by':kg y:=⟨by have:=m.1;rw[X]at this;omega,by have:=m.2;rw[U]at this;omega⟩
   refine qw3 (O2:=BS (qD C)) (P:=λr w1=>RfAt (λb=>N b\/w.heap.size+1+1<=b) w1 (qk C y x) r) ?_ n.op K J rfl M I ?_ (λr w1 w'=>xw D)
   ·rcases R with⟨h,F⟩|⟨h,F⟩<;>subst h F
    ·exact .inl ⟨rfl,rfl⟩
    ·exact .inr ⟨rfl,rfl⟩
   ·intro W A G
    exact(kS (by rcases R with⟨_,F⟩|⟨_,F⟩<;>subst F<;>simp[vq]) (hk.below A) (H.below A) by' bx (λb h=>bg (D b h) A.size)).mono λe w' h=>gw G h
  rcases B.1 with e|e|e|e|e|e|e|e|e<;>(simp only at e;subst e)
  ·exact logic 7 (.inl ⟨rfl,rfl⟩) rfl
  ·exact logic 6 (.inr ⟨rfl,rfl⟩) rfl
  ·exact zH 8 m.big rfl rfl nh
  ·exact less 11 (.inl ⟨rfl,rfl⟩) rfl
  ·exact less 10 (.inr ⟨rfl,rfl⟩) rfl
  ·exact zH 16 m.big rfl rfl nh
  ·exact zH 17 m.big rfl rfl nh
  ·exact zH 18 m.big rfl rfl nh
  ·exact zH 19 m.big rfl rfl nh
end
section
section
variable {x y z:mv}
theorem qst:Op.bytesLess x y=decide (x<y):=bytesLess_eq x y
theorem vat(h:x<y)(k:y<z):x<z:=List.lt_trans h k
theorem qum:¬x<x:=List.lt_irrefl x
theorem vje:x<=y\/y<=x:=List.le_total x y
theorem vm2(h:x<=y)(k:y<=z):x<=z:=List.le_trans h k
theorem gq(h:x<=y)(k:x≠y):x<y:=by
 by_cases A0:x<y
 ·exact A0
 ·exact absurd (List.le_antisymm h (List.not_lt.1 A0)) k
theorem vm1(h:x<=y)(k:y<z):x<z:=by
 by_cases e:x=y
 ·rw[e];exact k
 ·exact vat (gq h e) k
end
theorem vhw(ts:List mv):(ts.mergeSort λx y=>decide (x<=y)).Pairwise (·<=·):=by
 have:=List.pairwise_mergeSort (le:=λx y:mv=>decide (x<=y)) (λa b c h k=>by simp only[du]at *;exact vm2 h k) (λa b=>by simp only[dk,du];exact vje) ts;exact this.imp (λh=>by simpa using h)
theorem vdd{e:List mv}:∀m,m<=e.length->∀j,j<m->e.toArray[j]!∈Lib.compactUpTo e.toArray m:=by
 intro m
 induction m with
 | zero=>intro _ j u;omega
 | succ m ih=>
  intro C j u;rw[Lib.compactUpTo_succ]
  by_cases hjm:j=m
  ·subst hjm
   by_cases hk:Lib.keeps e.toArray j=true
   ·rw[bh hk];exact li _ (cp.2 rfl)
   ·have B:0<j:=by
     apply Decidable.byContradiction;intro B;exact hk (Lib.keeps_lt_one _ j mw)
    have A:e.toArray[j]! = e.toArray[j - 1]! := by
     apply Decidable.byContradiction;intro n;exact hk (Lib.keeps_pos n)
    rw[A];exact fo _ (ih mw (j - 1) mw)
  ·exact fo _ (ih mw j mw)
theorem pu{x:mv}:x∈vf ts↔x∈ts:=by
 unfold vf;have m:x∈(ts.mergeSort λx y=>decide (x<=y))↔x∈ts:=List.mem_mergeSort;rw[←m];generalize (ts.mergeSort λx y=>decide (x<=y))=zs;constructor
 ·intro h
  unfold Lib.compact Lib.compactUpTo at h;obtain⟨i,u,rfl⟩:=fw.1 h;have:=ff.1 (mf.1 u).1;simp only[List.getElem!_toArray];rw[iz,ag this];exact eu _
 ·intro h
  obtain⟨j,e⟩:=dy h;have n:=(au.1 e).1;have:=vdd zs.length nt j n;simp only[List.getElem!_toArray]at this;rw[iz,e]at this;exact this
theorem qaz(ts:List mv):(vf ts).Pairwise (·<·):=by
 unfold vf Lib.compact Lib.compactUpTo;have G:=vhw ts;generalize (ts.mergeSort λx y=>decide (x<=y))=zs at *;rw[List.pairwise_map];have F:((List.range zs.length).filter (Lib.keeps zs.toArray)).Pairwise (·<·):=List.Pairwise.sublist List.filter_sublist List.pairwise_lt_range;refine F.imp_of_mem ?_;intro a b J I R;obtain⟨K,M⟩:=mf.1 J;obtain⟨L,D⟩:=mf.1 I;have B:=ff.1 K;have lb:=ff.1 L;have n:∀i,i<zs.length->zs.toArray[i]! = zs[i]! := λi _=>by simp only[List.getElem!_toArray]
 have C:∀i j (A:i<zs.length) (u:j<zs.length),i<=j->zs[i]!<=zs[j]! := by
  intro i j A u U;rw[iz,iz,ag A,ag u]
  by_cases e:i=j
  ·subst e;exact List.le_refl _
  ·exact List.pairwise_iff_getElem.1 G i j A u mw
 have m:zs.toArray[b]!≠zs.toArray[b - 1]! := by
  intro H;rw[Lib.keeps_neg mw H]at D;cases D
 rw[n b lb,n (b - 1) mw]at m;rw[n a B,n b lb];exact vm1 (C a (b - 1) B mw mw) (gq (C (b - 1) b mw lb mw) (λe=>m e.symm))
end
section
attribute [local go_sem ↓] vk
def gg(S:List (List UInt8))(k:Nat)(t:List UInt8):Bool:=k==0||Op.bytesLess (S.getD (k - 1) []) t
def vR(ts S:List (List UInt8))(k:Nat):Nat->Int
 | 0=>-1
 | m+1=>if gg S k (ts.getD m [])&&(decide (vR ts S k m<0)||Op.bytesLess (ts.getD m []) (ts.getD (vR ts S k m).toNat [])) then m else vR ts S k m
theorem qe1(ts S:List mv)(k:Nat):∀m,-1<=vR ts S k m/\vR ts S k m<m:=by
 intro m
 induction m with
 | zero=>exact⟨Int.le_refl _,by show(-1:Int)<0;decide⟩
 | succ m ih=>
  unfold vR
  split
  ·exact⟨mw,mw⟩
  ·exact⟨ih.1,mw⟩
theorem qsq(ts S:List mv)(k:Nat):∀m,m<=ts.length->(vR ts S k m<0->∀i,i<m->gg S k (ts.getD i [])=false)/\(0<=vR ts S k m->gg S k (ts.getD (vR ts S k m).toNat [])=true/\∀i,i<m->gg S k (ts.getD i [])=true->¬ts.getD i []<ts.getD (vR ts S k m).toNat []):=by
 intro m
 induction m with
 | zero=>intro _;exact⟨λ_ i n=>absurd n mw,λh=>by simp[vR]at h⟩
 | succ m ih=>
  intro D;obtain⟨u,A⟩:=ih mw;have C:=qe1 ts S k m;unfold vR
  by_cases hc:(gg S k (ts.getD m [])&&(decide (vR ts S k m<0)||Op.bytesLess (ts.getD m []) (ts.getD (vR ts S k m).toNat [])))=true
  ·rw[bh hc]
   rw[cn,dk,du]at hc;refine⟨λh=>absurd h mw,λ_=>?_⟩;simp only[Int.toNat_natCast];refine⟨hc.1,λi n e=>?_⟩
   by_cases him:i=m
   ·subst him;exact qum
   ·rcases hc.2 with h|h
    ·rw[u h i mw]at e;cases e
    ·rw[qst,du]at h
     by_cases hb:vR ts S k m<0
     ·rw[u hb i mw]at e;cases e
     ·intro B
      exact(A mw).2 i mw e (vat B h)
  ·rw[aj hc]
   rw[cn,dk,du]at hc;refine⟨λh i n=>?_,λh=>⟨(A h).1,λi n e=>?_⟩⟩
   ·by_cases him:i=m
    ·subst him
     cases e:gg S k (ts.getD i []) with
     | false=>rfl
     | true=>exact absurd ⟨e,.inl h⟩ hc
    ·exact u h i mw
   ·by_cases him:i=m
    ·subst him
     intro B;exact hc ⟨e,.inr (by rw[qst,du];exact B)⟩
    ·exact(A h).2 i mw e
theorem qeg(h:i<ts.length):ts.getD i []∈ts:=by
 rw[aq,ag h];exact eu _
theorem qeq{x:mv}(h:x∈ts):∃i,i<ts.length/\ts.getD i []=x:=by
 obtain⟨i,e⟩:=dy h;exact⟨i,(au.1 e).1,by rw[aq,e];rfl⟩
theorem vhg{S:List mv}(h:S.Pairwise (·<·)){j:Nat}(e:j<S.length)(m:i<j):S.getD i []<S.getD j []:=by
 rw[aq,aq,ag mw,ag e];exact List.pairwise_iff_getElem.1 h i j mw e m
theorem qel{S:List mv}(h:S.Pairwise (·<·))(u:k<=S.length)(n:i<S.length):gg S k (S.getD i [])=decide (k<=i):=by
 unfold gg
 by_cases h0:k=0
 ·subst h0;simp
 ·rw[show(k==0)=false by simpa using h0,io,qst]
  by_cases hki:k<=i
  ·rw[de (vhg h n mw),de hki]
  ·rw[cw hki,cw]
   intro m
   by_cases e:i=k - 1
   ·subst e;exact qum m
   ·exact qum (vat m (vhg h mw mw))
theorem qss(u:k<=(vf ts).length)(h:vR ts (vf ts) k ts.length<0):k=(vf ts).length:=by
 apply Decidable.byContradiction;intro m;have n:=pu.1 (qeg (ts:=vf ts) (i:=k) mw);obtain⟨i,A,e⟩:=qeq n;have:=(qsq ts (vf ts) k ts.length nt).1 h i A;rw[e,qel (qaz ts) u mw]at this;simp at this
theorem qsr(u:k<=(vf ts).length)(h:0<=vR ts (vf ts) k ts.length):k<(vf ts).length/\ts.getD (vR ts (vf ts) k ts.length).toNat []=(vf ts).getD k []:=by
 have I:=qe1 ts (vf ts) k ts.length;obtain⟨n,C⟩:=(qsq ts (vf ts) k ts.length nt).2 h;obtain⟨b,H⟩:∃b,(vR ts (vf ts) k ts.length).toNat=b:=⟨_,rfl⟩;rw[H]at n C ⊢;have F:=pu.2 (qeg (ts:=ts) (i:=b) mw);obtain⟨i,A,e⟩:=qeq F;rw[←e,qel (qaz ts) u A,du]at n;have m:k<(vf ts).length:=mw;refine⟨m, ?_⟩
 by_cases hik:i=k
 ·rw[←e,hik]
 ·have D:=pu.1 (qeg (ts:=vf ts) (i:=k) m)
  obtain⟨j,G,B⟩:=qeq D;have:=C j G (by rw[B,qel (qaz ts) u m,du];exact nt);rw[B,←e]at this;exact absurd (vhg (qaz ts) A mw) this
end
section
attribute [local go_sem ↓] vk
theorem qu4(a b:mv):(!(Op.bytesLess a b||a==b))=Op.bytesLess b a:=by
 rw[qst,qst]
 by_cases h:b<a
 ·rw[de h]
  have n:¬a<b:=λk=>qum (vat h k)
  have m:(a==b)=false:=ae.2 (λe=>qum (e ▸ h));rw[cw n,m];rfl
 ·rw[cw h]
  by_cases e:a=b
  ·subst e;simp
  ·have:a<b:=gq (List.not_lt.1 h) e
   rw[de this];rfl
def vel:Value->Nat
 | .slice _ n _=>n
 | _=>0
structure SelAt(w:World)(f:RF)(W:World)(lv:Value)(l:List (List UInt8)):Prop where
 row:TwRow W (w.heap.size+1+1) lv l
 bel:Below (w.heap.size+1+1) ((w.alloc (.cells #[.string f.op,.string (BS f.text),.int .i64 f.cls,.slice f.pa f.pn f.pc,.slice f.ta f.tn f.tc,.slice f.ra f.rn f.rc] 184)).alloc zoC) W
section
variable {w W:World} {f:RF} {lv:Value} {l:List mv}
theorem SelAt.drewN(h:SelAt w f W lv l)(k:Nat):SelAt w f (W.drewN k) lv l:=⟨h.row,dr h.bel _⟩
theorem SelAt.bel0(h:SelAt w f W lv l):Xb w W:=((nw.alloc nt _).alloc mx _).trans (h.bel.mono mw)
theorem SelAt.size(h:SelAt w f W lv l):w.heap.size+1+1<=W.heap.size:=by have:=h.bel.size;simpa using this
theorem TwRow.cell(h:TwRow w base v ts)(m:ts[k]?=some t):∃g cap,v=.slice (some ⟨g,0,none⟩) ts.length cap/\base<=g/\g<w.heap.size/\w.cell? ⟨g,k,none⟩=some (.string (BS t)):=by
 obtain⟨g,cap,e,A,u,n⟩:=h.txt (by intro e;rw[e]at m;cases m);exact⟨g,cap,e,A,u,n k t m⟩
theorem TwRow.app1(h:TwRow W base v ts)(C:base<=W.heap.size)(x:mv)(L:ts.length<=1000000)(H:Nat)(D:W.heap.size=H):
  ∃g cap e,(appR #[62,62] 62 #[v,.slice (some ⟨H,0,none⟩) 1 1]).run prog (W.alloc (.cells #[.string (BS x)] 9))=.ok (.slice (some ⟨g,0,none⟩) (ts.length+1) cap) e /\
   Hid (TwRow e base (.slice (some ⟨g,0,none⟩) (ts.length+1) cap) (ts++[x]))/\Hid (Below base W e):=by
 subst D;obtain⟨n,B,F,I,G⟩:=info_parts qbi;have m:=World.ownsRow.alloc h (.cells #[.string (BS x)] 9);obtain⟨g,cap,e,u,J,K,M,_⟩:=run_append_lies (P:=prog) (W.alloc (.cells #[.string (BS x)] 9)) 62 62 base 9 n _ 1 16 underlying62 B F I G rfl mw v ts.length _ m
  ⟨W.heap.size,0,none⟩ 1 1 [.string (BS x)] rfl (World.news_of_block (cs:=#[.string (BS x)]) (t:=9) (fr:=(0,0)) (heap_alloc_new W _)) (by simp[Value.oneCell']) mw (by unfold maxLen;omega) mw my _ rfl
 refine⟨g,cap,e,u,qd ?_,qd ?_⟩
 ·show World.ownsRow _ _ _ _ _ _ _
  rw[bu,da,qu,dt];exact J
 ·exact Go.RowKit.Below.grown (((Below.refl base W).alloc C _)) K my (λk A=>(m.lt k A).1)
end
end
section
def TwC(N:Nat->Prop)(W:World)(S:ByteArray)(f g:RF)(c:Co):Prop:=Calls prog 227 #[.string S,.agg #[.string f.op,.string (BS f.text),.int .i64 f.cls,.slice f.pa f.pn f.pc,.slice f.ta f.tn f.tc,.slice f.ra f.rn f.rc],.agg #[.string g.op,.string (BS g.text),.int .i64 g.cls,.slice g.pa g.pn g.pc,.slice g.ta g.tn g.tc,.slice g.ra g.rn g.rc]] W λe w'=>Below W.heap.size W w'/\∃r:RF,e=.returned (.agg #[.string r.op,.string (BS r.text),.int .i64 r.cls,.slice r.pa r.pn r.pc,.slice r.ta r.tn r.tc,.slice r.ra r.rn r.rc])/\RfAt N w' c r
theorem ex6{a b c f g:Value}(C:Xc W q 0 a)(B:Xc W q 1 b)(A:Xc W q 2 c)(u:Xc W q 3 d)(n:Xc W q 4 f)(m:Xc W q 5 g)(k:Nat)(e:k<6):∃v,Xc W q k v:=by
 match k,e with|0,_=>exact⟨_,C⟩|1,_=>exact⟨_,B⟩|2,_=>exact⟨_,A⟩|3,_=>exact⟨_,u⟩|4,_=>exact⟨_,n⟩|5,_=>exact⟨_,m⟩
structure OutAt(N:Nat->Prop)(w1 wr:World)(ob:Nat)(c:Co)(r:RF):Prop where
 bel:Below w1.heap.size w1 wr
 ge:w1.heap.size<=ob
 lt:ob<wr.heap.size
 cells:∀k,k<6->wr.cell? ⟨ob,k,none⟩=(qt r)[k]?
 fz:∀i,wr.frozen? ⟨ob,i,none⟩=false
 rf:RfAt (λb=>N b\/(w1.heap.size<=b/\b≠ob)) wr c r
section
variable {N:Nat->Prop} {w1 wr w':World} {ob:Nat} {c d:Co} {r s:RF}
theorem OutAt.below(h:OutAt N w1 wr ob c r)(e:Xb wr w'):OutAt N w1 w' ob c r:=
 ⟨qf h.bel e,h.ge,bg h.lt e.size,λk m=>((qj e).1 _ _ h.lt).trans (h.cells k m),λi=>((qj e).2 _ _ h.lt).trans (h.fz i),h.rf.below e⟩
theorem OutAt.new(e:Xb w1 wr)(u:RfAt (λb=>N b\/w1.heap.size<=b) wr c r):
  OutAt N w1 (wr.alloc (.cells #[.string r.op,.string (BS r.text),.int .i64 r.cls,.slice r.pa r.pn r.pc,.slice r.ta r.tn r.tc,.slice r.ra r.rn r.rc] 184)) wr.heap.size c r:=by
 have n:Xb wr (wr.alloc (.cells #[.string r.op,.string (BS r.text),.int .i64 r.cls,.slice r.pa r.pn r.pc,.slice r.ta r.tn r.tc,.slice r.ra r.rn r.rc] 184)):=nw.alloc nt _;refine⟨e.alloc e.size _,e.size,mx,λk A=>?_,λi=>mx, ?_⟩
 ·rw[cd _ _ _ _ rfl]
  match k,A with
  | 0,_=>rfl
  | 1,_=>rfl
  | 2,_=>rfl
  | 3,_=>rfl
  | 4,_=>rfl
  | 5,_=>rfl
 ·exact u.keep (λb _ m=>n.block b m) n.size (λb h m=>by
   rcases h with h|h
   ·exact .inl h
   ·exact .inr ⟨h,mw⟩)
theorem qxc{a b c d f g:Value}(B:∃v,Xc W q 0 v)(A:∃v,Xc W q 1 v)(u:∃v,Xc W q 2 v)(n:∃v,Xc W q 3 v)(m:∃v,Xc W q 4 v)(e:∃v,Xc W q 5 v):
  ∀k,k<6->((((((W.setCell ⟨q,0,none⟩ a).setCell ⟨q,1,none⟩ b).setCell ⟨q,2,none⟩ c).setCell ⟨q,3,none⟩ d).setCell ⟨q,4,none⟩ f).setCell ⟨q,5,none⟩ g).cell? ⟨q,k,none⟩=[a,b,c,d,f,g][k]?:=by
 obtain⟨J,B⟩:=B;obtain⟨I,A⟩:=A;obtain⟨H,u⟩:=u;obtain⟨G,n⟩:=n;obtain⟨F,m⟩:=m;obtain⟨D,e⟩:=e;intro k C
 match k,C with
 | 0,_=>simp[go_sem,B]
 | 1,_=>simp[go_sem,A]
 | 2,_=>simp[go_sem,u]
 | 3,_=>simp[go_sem,n]
 | 4,_=>simp[go_sem,m]
 | 5,_=>simp[go_sem,e]
theorem OutAt.put(B:Xb w1 wr)(n:w1.heap.size<=ob)(lt:ob<wr.heap.size)(C:∀b,N b->b<w1.heap.size)(e:∀k,k<6->∃v,Xc wr ob k v)(A:Xf wr ob)(u:RfAt (λb=>N b\/(w1.heap.size<=b/\b≠ob)) wr d s):
  OutAt N w1 ((((((wr.setCell ⟨ob,0,none⟩ (.string s.op)).setCell ⟨ob,1,none⟩ (.string (BS s.text))).setCell ⟨ob,2,none⟩ (.int .i64 s.cls)).setCell ⟨ob,3,none⟩ (.slice s.pa s.pn s.pc)).setCell ⟨ob,4,none⟩ (.slice s.ta s.tn s.tc)).setCell ⟨ob,5,none⟩ (.slice s.ra s.rn s.rc)) ob d s:=by
 have m:=jm wr ob (.string s.op) (.string (BS s.text)) (.int .i64 s.cls) (.slice s.pa s.pn s.pc) (.slice s.ta s.tn s.tc) (.slice s.ra s.rn s.rc);refine⟨m.bel _ _ n B,n,by rw[m.size];exact lt,qxc (e 0 mw) (e 1 mw) (e 2 mw) (e 3 mw) (e 4 mw) (e 5 mw),λi=>?_,m.rf u (by rintro (h|h);have:=C _ h;omega;exact h.2 rfl) (λ_ h _=>h)⟩;simp[go_sem,A i]
end
theorem qii(D:vq o)(F:Xb w1 W)(C:RfAt (λb=>N b\/(w1.heap.size<=b/\b≠ob)) W x f)(B:RfAt (λb=>N b\/(w1.heap.size<=b/\b≠ob)) W y g)(L:ob<W.heap.size)(J:kg x)(n:kg y):
  nz 227 #[.string (BS (qD o)),f.v,g.v] W λe w'=>Xb W w'/\∃r:RF,e=.returned r.v/\RfAt (λb=>N b\/(w1.heap.size<=b/\b≠ob)) w' (qk o x y) r:=by
 have K:=F.size;have A:RfAt (λb=>(N b\/(w1.heap.size<=b/\b≠ob))/\b<W.heap.size) W x f:=C.keep (λ_ _ _=>rfl) nt (λb h m=>⟨h,m⟩);have u:RfAt (λb=>(N b\/(w1.heap.size<=b/\b≠ob))/\b<W.heap.size) W y g:=B.keep (λ_ _ _=>rfl) nt (λb h m=>⟨h,m⟩);refine(kS D A u J n (λb h=>h.2)).mono ?_;rintro e w'⟨H,r,I,G⟩
 exact⟨H,r,I,G.keep (λ_ _ _=>rfl) nt (λb h _=>by
  rcases h with h|h
  ·exact h.1
  ·exact .inr ⟨mw,mw⟩)⟩
theorem qy2(D:vq o)(F:Xb w1 W)(C:RfAt (λb=>N b\/w1.heap.size<=b) W x f)(B:RfAt (λb=>N b\/w1.heap.size<=b) W y g)(J:kg x)(n:kg y):
  nz 227 #[.string (BS (qD o)),f.v,g.v] W λe w'=>Xb W w'/\∃r:RF,e=.returned r.v/\RfAt (λb=>N b\/w1.heap.size<=b) w' (qk o x y) r:=by
 have K:=F.size;have A:RfAt (λb=>(N b\/w1.heap.size<=b)/\b<W.heap.size) W x f:=C.keep (λ_ _ _=>rfl) nt (λb h m=>⟨h,m⟩);have u:RfAt (λb=>(N b\/w1.heap.size<=b)/\b<W.heap.size) W y g:=B.keep (λ_ _ _=>rfl) nt (λb h m=>⟨h,m⟩);refine(kS D A u J n (λb h=>h.2)).mono ?_;rintro e w'⟨H,r,I,G⟩
 exact⟨H,r,I,G.keep (λ_ _ _=>rfl) nt (λb h _=>by
  rcases h with h|h
  ·exact h.1
  ·exact .inr mw)⟩
theorem qnr{e:World}(h:RfAt (λb=>N b\/w1.heap.size<=b) e c g)(o:Obj):RfAt (λb=>N b\/(w1.heap.size<=b/\b≠e.heap.size)) (e.alloc o) c g:=
 h.keep (λb _ m=>((Below.refl e.heap.size e).alloc nt o).block b m) mx (λb h m=>by
  rcases h with h|h
  ·exact .inl h
  ·exact .inr ⟨h,mw⟩)
theorem vbl(x:Co):∀(r:List mv) (f:Co) (t:mv),jM x f (r++[t])=qk 7 (jM x f r) (qk 8 x (qY t)):=by
 intro r
 induction r with
 | nil=>intro f t;rfl
 | cons u r ih=>intro f t;rw[cm,jM,jM,ih]
def amK(x:Co)(S:List (List UInt8))(i:Nat):Co:=jM x (qk 8 x (qY (S.getD 0 []))) ((S.drop 1).take (i - 1))
theorem qyw{S:List mv}(m:1<=i)(e:S[i]?=some t):amK x S (i+1)=qk 7 (amK x S i) (qk 8 x (qY t)):=by
 unfold amK;rw[←vbl]
 congr 1
 obtain⟨j,rfl⟩:∃j,i=j+1:=⟨i - 1,mw⟩;rw[Nat.add_sub_cancel,Nat.add_sub_cancel,dn,mh,Nat.add_comm 1 j,e];rfl
theorem vf7(e:vf ts≠[]):amK x (vf ts) (vf ts).length=vt x ts:=by
 unfold amK vt
 cases h:vf ts with
 | nil=>exact absurd h e
 | cons t r=>simp
structure ZeroVar(w:World)(q:Nat):Prop where
 c0:w.cell? ⟨q,0,none⟩=some (.string ⟨#[]⟩)
 c1:w.cell? ⟨q,1,none⟩=some (.string ⟨#[]⟩)
 c2:w.cell? ⟨q,2,none⟩=some (.int .i64 0)
 c3:w.cell? ⟨q,3,none⟩=some (.slice none 0 0)
 c4:w.cell? ⟨q,4,none⟩=some (.slice none 0 0)
 c5:w.cell? ⟨q,5,none⟩=some (.slice none 0 0)
 fz:∀i,w.frozen? ⟨q,i,none⟩=false
 lt:q<w.heap.size
theorem ZeroVar.below(h:ZeroVar w q)(e:Xb w w'):ZeroVar w' q:=
 ⟨((qj e).1 _ _ h.lt).trans h.c0,((qj e).1 _ _ h.lt).trans h.c1,((qj e).1 _ _ h.lt).trans h.c2,((qj e).1 _ _ h.lt).trans h.c3,((qj e).1 _ _ h.lt).trans h.c4,((qj e).1 _ _ h.lt).trans h.c5,λi=>((qj e).2 _ i h.lt).trans (h.fz i),bg h.lt e.size⟩
theorem ZeroVar.drew(h:ZeroVar w q):ZeroVar w.drew q:=⟨h.c0,h.c1,h.c2,h.c3,h.c4,h.c5,h.fz,h.lt⟩
theorem xZ(B:World):ZeroVar (B.alloc zoC) B.heap.size:=⟨mx,mx,mx,mx,mx,mx,λi=>mx,mx⟩
theorem yO(h:RfAt N W c f)(e:∀b,N b->b<W.heap.size->N' b):RfAt N' W c f:=h.keep (λ_ _ _=>rfl) nt e
end
section
attribute [local go_sem ↓] vk
theorem qr6{la:Option Addr}{lc:Nat}(hx:RfAt N w x f)(hN:∀b,N b->b<w.heap.size)(cE:TxtAt w (.slice la ts.length lc) ts)(hne:ts≠[])(B8:ts.length<=1000)(O9:∀t∈ts,t.length<=1000)(bx:kg x)(A1:∀t∈ts,kg (qY t))(I:∀t∈ts,kg (qk 8 x (qY t)))(F:∀i,1<=i->i<=(vf ts).length->kg (amK x (vf ts) i)):
  nz 228 #[f.v,.slice la ts.length lc] w (xo N w (vt x ts)):=by
 obtain⟨S,hS⟩:∃S,vf ts=S:=⟨_,rfl⟩;obtain⟨n,hn⟩:∃n,ts.length=n:=⟨_,rfl⟩
 have hSl:S.length<=n:=by
  rw[←hS,←hn];exact pw ts
 have MB:Hid (∀k t,ts[k]?=some t->∃lb,la=some ⟨lb,0,none⟩/\lb<w.heap.size/\Xc w lb k (.string (BS t))):=qd (by
  obtain⟨a,c,e,h⟩:=cE;injection e with e1 _ _;subst e1
  exact h)
 have HN:=qd hn;have HS:=qd hS;have HX:=qd hx;rw[hn]at B8 ⊢;have M0:Hid (SelAt w f ((w.alloc (.cells #[.string f.op,.string (BS f.text),.int .i64 f.cls,.slice f.pa f.pn f.pc,.slice f.ta f.tn f.tc,.slice f.ra f.rn f.rc] 184)).alloc zoC) (.slice none 0 0) (S.take 0)):=qd ⟨ed _ _ _ _,nw⟩;simp only[RF.v];clear cE hn hS hx;go_enter func228,ntmps228
 go_upto_block 0 with fail
 go_cut [5] (λs5 wx=>∃a c,s5=.slice a S.length c/\Hid (SelAt w f wx (.slice a S.length c) S))
 case first=>
  go_wp2_with fail
  go_loopw [5] (λlv wr=>∃(k:Nat) (a:Option Addr) (c:Nat),k<=S.length/\lv=.slice a k c/\Hid (SelAt w f wr (.slice a k c) (S.take k))) (λlv _=>n - vel lv)
  case atStart=>exact⟨0,none,0,bj _,rfl,M0⟩
  case round=>
   clear M0;obtain⟨k,a,c,hk,rfl,H⟩:=hrel
   by_cases U5:k<n
   ·have wS:(k:Int)<(n:Int):=mw
    go_wp2_with fail
    obtain⟨wo,rfl⟩:∃wo:World,wo=wr:=⟨_,rfl⟩
    go_loopw [6,7] (λb i wq=>∃m:Nat,m<=n/\i=.int .i64 m/\b=.int .i64 (vR ts S k m)/\Hid (SelAt w f wq (.slice a k c) (S.take k))) (λ_ i _=>n - (intOf i).toNat)
    case atStart=>exact⟨0,bj _,rfl,rfl,H⟩
    case round=>
     clear H;obtain⟨m,hm,rfl,rfl,H⟩:=hrel;have M:=qe1 ts S k m;have F7:=(q9 H).bel0
     by_cases KV:m<n
     ·obtain⟨t,Z⟩:∃t,ts[m]?=some t:=⟨_,ag (by have:=q9 HN;omega)⟩
      obtain⟨lb,rfl,L9,nD⟩:=q9 MB m t Z;have WA:ts.getD m []=t:=by rw[aq,Z];rfl
      have tl:Xc wr lb m (.string (BS t)):=((qj F7).1 _ _ L9).trans nD;have sB:(0:Int)<=(m:Int):=mw;have mB:(m:Int)<(n:Int):=mw;obtain⟨B,hB⟩:∃B,vR ts S k m=B:=⟨_,rfl⟩;obtain⟨L,hL⟩:∃L,gg S k t=L:=⟨_,rfl⟩;have dO:Hid (vR ts S k (m+1)=if L&&(decide (B<0)||Op.bytesLess t (ts.getD B.toNat [])) then(m:Int) else B):=qd (by rw[vR,WA,hB,hL]);rw[hB]at M ⊢;have uO:=qd hL;have HTM:=qd Z;clear hB hL WA Z nD
      go_wp2_with fail
      go_cut [8] (λs8 wx=>s8=.bool L/\Hid (SelAt w f wx (.slice a k c) (S.take k)))
      case first=>
       by_cases N5:k=0
       ·subst N5
        have hLt:L=true:=by rw[←q9 uO];rfl
        subst hLt
        go_quiet (fail)
        go_wp2_with fail
        go_meet
        exact⟨rfl,qd (H.drewN _)⟩
       ·obtain⟨k',rfl⟩:∃k',k=k'+1:=⟨k - 1,mw⟩
        obtain⟨u,hu⟩:∃u,S[k']?=some u:=⟨_,ag mw⟩;obtain⟨D,lcap,e,cI,FX,CZ⟩:=(q9 H).row.cell (k:=k') (t:=u) (by rw[lz mw];exact hu);injection e with e1 e2 e3;subst e1
        have hLv:(!(Op.bytesLess (BS t).toList (BS u).toList||(BS t).toList==(BS u).toList))=L:=by
         rw[qM,qM,qu4,←q9 uO];unfold gg;rw[Nat.add_sub_cancel,aq,hu];simp
        have F2:(((k':Int)+1)==0)=false:=by rw[ae];omega
        have M7:(0:Int)<=(k':Int):=mw;have dV:(k':Int)<(k':Int)+1:=mw;clear hu e2 e3
        go_quiet (fail)
        go_wp2_with fail
        go_meet
        exact⟨by rw[←hLv],qd (H.drewN _)⟩
      case rest=>
       obtain⟨rfl,eF⟩:=hcut;have I:=(q9 eF).bel0;have VH:Xc wc lb m (.string (BS t)):=((qj I).1 _ _ L9).trans ((((qj F7).1 _ _ L9).symm).trans tl);clear tl H
       cases L with
       | false=>
        go_wp2_with fail
        go_quiet (fail)
        go_wp2_with fail
        go_roundw
        case rel=>exact⟨m+1,mw,by go_num,by rw[q9 dO];rfl,qd (eF.drewN _)⟩
        case measure=>simp[intOf];omega
       | true=>
        by_cases hB:B<0
        ·have IG:decide (B<0)=true:=de hB
         go_wp2_with fail
         go_quiet (fail)
         go_wp2_with fail
         go_roundw
         case rel=>exact⟨m+1,mw,by go_num,by rw[q9 dO,IG];rfl,qd (eF.drewN _)⟩
         case measure=>simp[intOf];omega
        ·have IG:decide (B<0)=false:=cw hB
         obtain⟨b,rfl⟩:∃b:Nat,B=b:=⟨B.toNat,mw⟩;obtain⟨u,hu⟩:∃u,ts[b]?=some u:=⟨_,ag (by have:=q9 HN;omega)⟩;obtain⟨lb',e,hlb',CZ⟩:=q9 MB b u hu;injection e with e;injection e with e;subst e;have ul:Xc wc lb b (.string (BS u)):=((qj I).1 _ _ L9).trans CZ;have QA:(0:Int)<=(b:Int):=mw;have cP:(b:Int)<(n:Int):=mw
         have sX:Hid (vR ts S k (m+1)=if Op.bytesLess t u then(m:Int) else b):=qd (by
          rw[q9 dO,IG,Int.toNat_natCast,aq,hu];simp)
         have U7:Op.bytesLess (BS t).toList (BS u).toList=Op.bytesLess t u:=by rw[qM,qM]
         clear dO hu CZ M
         cases hq:Op.bytesLess t u with
         | false=>
          rw[hq]at U7 sX
          go_wp2_with fail
          go_quiet (fail)
          go_wp2_with fail
          go_roundw
          case rel=>exact⟨m+1,mw,by go_num,by rw[q9 sX];rfl,qd (eF.drewN _)⟩
          case measure=>simp[intOf];omega
         | true=>
          rw[hq]at U7 sX
          go_wp2_with fail
          go_quiet (fail)
          go_wp2_with fail
          go_roundw
          case rel=>exact⟨m+1,mw,by go_num,by rw[q9 sX];rfl,qd (eF.drewN _)⟩
          case measure=>simp[intOf];omega
     ·have CW:m=n:=mw
      have hmn':¬(m:Int)<(n:Int):=mw;have G7:=q9 HN;obtain⟨B,hB⟩:∃B,vR ts S k m=B:=⟨_,rfl⟩;have aL:vR ts (vf ts) k ts.length=B:=by rw[q9 HS,G7,←CW];exact hB
      rw[hB]at M ⊢
      by_cases hBn:B<0
      ·have wT:k=S.length:=by have:=qss (ts:=ts) (k:=k) (by rw[q9 HS];exact hk) (by rw[aL];exact hBn);rw[this,q9 HS]
       have IG:decide (B<0)=true:=de hBn;clear hB aL
       go_wp2_with fail
       go_meet
       subst wT;exact⟨a,c,rfl,by have:=q9 H;rw[fk]at this;exact qd this⟩
      ·have IG:decide (B<0)=false:=cw hBn
       obtain⟨A7,dU⟩:=qsr (ts:=ts) (k:=k) (by rw[q9 HS];exact hk) (by rw[aL];omega);rw[aL,q9 HS]at dU;rw[q9 HS]at A7;obtain⟨b,rfl⟩:∃b:Nat,B=b:=⟨B.toNat,mw⟩;obtain⟨u,hu⟩:∃u,ts[b]?=some u:=⟨_,ag mw⟩;obtain⟨lb,rfl,L9,CZ⟩:=q9 MB b u hu;have ul:Xc wr lb b (.string (BS u)):=((qj F7).1 _ _ L9).trans CZ;have QA:(0:Int)<=(b:Int):=mw;have cP:(b:Int)<(n:Int):=mw
       have XF:S.take (k+1)=S.take k++[u]:=by
        rw[dn,ag A7];rw[Int.toNat_natCast,aq,hu,aq,ag A7]at dU;rw[←show u=S[k] from dU];rfl
       have V2:(S.take k).length=k:=by rw[dh];omega
       obtain⟨g5,M9,w5,R9,t7,P6⟩:=(q9 H).row.app1 H.size u mw wr.heap.size rfl;rw[←XF,V2]at t7;rw[V2]at R9;have mG:Hid (SelAt w f w5 (.slice (some ⟨g5,0,none⟩) (k+1) M9) (S.take (k+1))):=qd ⟨q9 t7,H.bel.trans P6⟩;clear hB aL dU hu CZ XF V2 t7 P6
       go_wp2_with fail
       go_roundw
       case rel=>exact⟨k+1,_,_,mw,rfl,mG⟩
       case measure=>simp[vel];omega
   ·have wS:¬(k:Int)<(n:Int):=mw
    have wT:k=S.length:=mw
    go_wp2_with fail
    go_meet
    subst wT;exact⟨a,c,rfl,by have:=q9 H;rw[fk]at this;exact qd this⟩
 case rest=>
  obtain⟨a,c,rfl,H⟩:=hcut;obtain⟨w1,rfl⟩:∃w1:World,w1=wc:=⟨_,rfl⟩;have GX:S≠[]:=by rw[←q9 HS];exact qay hne
  have LR:0<S.length:=List.length_pos_iff.2 GX;obtain⟨J,wE⟩:∃t,S[0]?=some t:=⟨_,ag LR⟩;obtain⟨D,lcap,e,cI,FX,iT⟩:=(q9 H).row.cell (k:=0) wE;injection e with e1 _ _;subst e1;have B9:=(q9 H).size;have F0:=(q9 H).bel
  have XK:Kx1 w1 w.heap.size f:=by
   refine⟨?_, ?_, ?_, ?_, ?_, ?_⟩
   all_goals exact(F0.cell (p:=⟨w.heap.size,_,none⟩) (by show w.heap.size<w.heap.size+1+1;omega)).trans (by simp[go_sem])
  obtain⟨X0,X1,X2,X3,X4,X5⟩:=XK;obtain⟨Q0,Q1,Q2,Q3,Q4,Q5,QZ,-⟩:ZeroVar w1 (w.heap.size+1):=by have:=(xZ (w.alloc _)).below (F0.mono mx);simpa using this
  have sO:=(q9 H).bel0
  have JE:Hid (∀t∈S,t.length<=1000/\kg (qY t)/\kg (qk 8 x (qY t))):=qd λt Z=>by
   have hm:=pu.1 (show t∈vf ts by rw[q9 HS];exact Z);exact⟨O9 t hm,A1 t hm,I t hm⟩
  have BH:=qd H.row;have UH:=qd sO;have IY:Hid (∀W,Xb w1 W->RfAt N W x f):=qd λW hb=>(HX.below sO).below hb
  have sY:Hid (∀b,N b->b<w1.heap.size):=qd λb h=>bg (hN b h) sO.size
  have KXg:Hid (∀b W,Xb w1 b->Xb b W->∀(i:Nat) (t:mv),Xc w1 D i (.string (BS t))->(Kt1 W w.heap.size f (Xc W D i (.string (BS t))))):=qd λb W K h2 i t hl=>by
   have hh:=qf K h2;refine⟨?_, ?_, ?_, ?_, ?_, ?_, ?_⟩
   ·exact((qj hh).1 _ _ mw).trans X0
   ·exact((qj hh).1 _ _ mw).trans X1
   ·exact((qj hh).1 _ _ mw).trans X2
   ·exact((qj hh).1 _ _ mw).trans X3
   ·exact((qj hh).1 _ _ mw).trans X4
   ·exact((qj hh).1 _ _ mw).trans X5
   ·exact((qj hh).1 _ _ FX).trans hl
  have LFg:Hid (∀(t:mv) (W:World),nz 224 #[.string ⟨#[116,101,120,116]⟩,.string (BS (qL t)),.int .i64 3,.int .i64 ((BS t).size:Int)] W λe w'=>Xb W w'/\∃r:RF,e=.returned (.agg #[.string r.op,.string (BS r.text),.int .i64 r.cls,.slice r.pa r.pn r.pc,.slice r.ta r.tn r.tc,.slice r.ra r.rn r.rc])/\RfAt (λb=>N b\/W.heap.size<=b) w' (qY t) r):=qd λt W=>(kv N ⟨2,0,t,[]⟩ W).mono λe w' h=>h.rf
  have QTg:Hid (∀(t:mv),t.length<=1000->∀W,nz 226 #[.string (BS t)] W λe w'=>e=.returned (.string (BS (qL t)))/\w'=W):=qd λt Z W=>xF (BS t) Z W
  have mX:J∈S:=ch wE;obtain⟨QB,sQ⟩:∃q,BS (qL J)=q:=⟨_,rfl⟩;have LF:=qd (LFg J);have QT:=qd (QTg J ((JE J mX).1));have BT:=qd ((JE J mX).2.1);have KX:Hid (∀W,Xb w1 W->(Kt1 W w.heap.size f (Xc W D 0 (.string (BS J))))):=qd λW hb=>q9 KXg w1 W nw hb 0 J iT
  have BD:=IY;have eC:=sY;rw[sQ]at LF QT;have hSl0:(0:Int)<(S.length:Int):=mw;have YP:Hid (amK x S 1=qk 8 x (qY J)):=qd (by unfold amK;rw[iu,List.take_zero,aq,wE];rfl);clear F0 sO wE mX sQ H
  go_upto_region 13 with(go_at_call 226;refine(QT _).mono ?_;rintro e wq⟨rfl,hq⟩;subst wq)
  go_cut [10] (λs10 wx=>∃ob r,s10=.pointer (some ⟨ob,0,none⟩)/\Hid (OutAt N w1 wx ob (qk 8 x (qY J)) r))
  case first=>
   have OU:D<w1.heap.size:=mw;have KJ:¬w.heap.size=w1.heap.size:=mw;have KI:¬w1.heap.size=w.heap.size:=mw;have na3:¬D=w1.heap.size:=mw;have na4:¬w1.heap.size=D:=mw;have na5:w.heap.size<w1.heap.size:=mw;have na6:D<w1.heap.size:=mw;have TWA:Hid (∀(A:World) (C:RF),Xb w1 A->RfAt (λb=>N b\/(w1.heap.size<=b/\b≠w1.heap.size)) A (qY J) C->w1.heap.size+1<=A.heap.size->TwC (λb=>N b\/(w1.heap.size<=b/\b≠w1.heap.size)) A ⟨#[61]⟩ f C (qk 8 x (qY J))):=qd λA C K h2 h3=>qii (o:=8) (by simp[vq]) K ((BD A K).keep (λ_ _ _=>rfl) nt (λ_ h _=>.inl h)) h2 mw bx BT
   have TWB:Hid (∀(A:World) (C:RF),Xb w1 A->RfAt (λb=>N b\/w1.heap.size<=b) A (qY J) C->TwC (λb=>N b\/(w1.heap.size<=b/\b≠A.heap.size)) (A.alloc zoC) ⟨#[61]⟩ f C (qk 8 x (qY J))):=qd λA C K h2=>qii (o:=8) (by simp[vq]) (qf K (nw.alloc nt _)) ((BD _ (qf K (nw.alloc nt zoC))).keep (λ_ _ _=>rfl) nt (λ_ h _=>.inl h)) (qnr h2 _) mx bx BT
   have TWC:Hid (∀(A:World) (C:RF),Xb w1 A->RfAt (λb=>N b\/w1.heap.size<=b) A (qY J) C->TwC (λb=>N b\/w1.heap.size<=b) A ⟨#[61]⟩ f C (qk 8 x (qY J))):=qd λA C K h2=>qy2 (o:=8) (by simp[vq]) K ((BD A K).keep (λ_ _ _=>rfl) nt (λ_ h _=>.inl h)) h2 bx BT
   go_region_held3 (λW=>Kt1 W w.heap.size f (Xc W D 0 (.string (BS J)))) (first|with_reducible assumption|(simp only[Kt1];go_keep)) (first|(go_at_call 227;have _q:=JR;refine(TWA A C rN JR D8).mono ?_;rintro e G⟨F,r3,rfl,U⟩;have eB:=qd U;have R:=qd (qf rN F);obtain⟨p0,p1,p2,p3,p4,p5,pz,S4⟩:=(q9 SM).below F;have aK:=q9 KX G R;clear F U)|(go_at_call 227;have _q:=tC;refine(TWB A C Y tC).mono ?_;rintro e G⟨F,r3,rfl,U⟩;have JI:=qd U;have R:=qd (qf (qf Y (nw.alloc nt _)) F);obtain⟨p0,p1,p2,p3,p4,p5,pz,S4⟩:=(xZ A).below F;have aK:=q9 KX G R;clear F U)|(go_at_call 227;have _q:=tC;refine(TWC A C Y tC).mono ?_;rintro e G⟨F,r3,rfl,U⟩;have cY:=qd U;have R:=qd (qf Y F);have rT:=F.size;have KG:¬w.heap.size=G.heap.size:=mw;have KF:¬G.heap.size=w.heap.size:=mw;have nc3:¬D=G.heap.size:=mw;have nc4:¬G.heap.size=D:=mw;have nc5:w.heap.size<G.heap.size:=mw;have nc6:D<G.heap.size:=mw;have aK:=q9 KX G R;clear F U)|(go_at_call 224;refine(LF (w1.alloc zoC).drew).mono ?_;rintro e A⟨I,C,rfl,P5⟩;have rN:=qd (qf ((Below.refl w1.heap.size w1).alloc nt zoC).drew I);have JR:Hid (RfAt (λb=>N b\/(w1.heap.size<=b/\b≠w1.heap.size)) A (qY J) C):=qd (P5.keep (λ_ _ _=>rfl) nt (λb h _=>(by rcases h with h|h;exact .inl h;right;have h':(w1.alloc zoC).heap.size<=b:=h;rw[World.size_alloc]at h';exact⟨mw,mw⟩)));have wK:=(xZ w1).drew.below I;have SM:=qd wK;have D8:w1.heap.size+1<=A.heap.size:=wK.lt;clear wK;have uB:=q9 KX A rN;clear I P5)|(go_at_call 224;refine(LF w1.drew).mono ?_;rintro e A⟨I,C,rfl,P5⟩;have Y:=qd (qf (Below.refl w1.heap.size w1).drew I);have tC:Hid (RfAt (λb=>N b\/w1.heap.size<=b) A (qY J) C):=qd P5;have D8:w1.heap.size<=A.heap.size:=I.size;have fB:¬w.heap.size=A.heap.size:=mw;have KH:¬A.heap.size=w.heap.size:=mw;have nb3:¬D=A.heap.size:=mw;have nb4:¬A.heap.size=D:=mw;have nb5:w.heap.size<A.heap.size:=mw;have nb6:D<A.heap.size:=mw;have uB:=q9 KX A Y;clear I P5))
   all_goals
    go_wp2_with fail
    go_meet
    first
     | (have _q:=eB;exact⟨_,r3,rfl,qd (OutAt.put R nt S4 eC (ex6 p0 p1 p2 p3 p4 p5) pz eB)⟩)
     | (have _q:=JI;exact⟨_,r3,rfl,qd (OutAt.put R Y.size S4 eC (ex6 p0 p1 p2 p3 p4 p5) pz JI)⟩)
     | (have _q:=cY;exact⟨_,r3,rfl,qd (OutAt.new R cY)⟩)
  case rest=>
   obtain⟨ob,r,rfl,HO⟩:=hcut;rw[←q9 YP]at HO;clear LF QT BT KX YP iT
   go_wp2_with fail
   go_loopw [11] (λi wr=>∃(k:Nat) (r:RF),1<=k/\k<=S.length/\i=.int .i64 k/\Hid (OutAt N w1 wr ob (amK x S k) r)) (λi _=>S.length - (intOf i).toNat)
   case atStart=>exact⟨1,r,nt,LR,rfl,HO⟩
   case round=>
    clear HO r;obtain⟨k,r,A5,A7,rfl,HO⟩:=hrel;have M:=(q9 HO).bel;have t9:=M.size;have ON:=(q9 HO).ge;have holt:=(q9 HO).lt
    by_cases A0:k<S.length
    ·obtain⟨t,Z⟩:∃t,S[k]?=some t:=⟨_,ag A0⟩
     have bF:t∈S:=ch Z
     have bT:Xc w1 D k (.string (BS t)):=by
      obtain⟨lg',lcap',e,_,_,hl'⟩:=(q9 BH).cell (k:=k) Z;injection e with e1 _ _;injection e1 with e1;injection e1 with e1;rw[e1];exact hl'
     have hlkr:Xc wr D k (.string (BS t)):=((qj M).1 _ _ FX).trans bT;have bY:=λk=>(qj M).1 w.heap.size k mw
     obtain⟨Y0,Y1,Y2,Y3,Y4,Y5⟩:Kx1 wr w.heap.size f:=⟨(bY _).trans X0,(bY _).trans X1,(bY _).trans X2,(bY _).trans X3,(bY _).trans X4,(bY _).trans X5⟩;clear bY;have oH:Hid (amK x S (k+1)=qk 7 (amK x S k) (qk 8 x (qY t))):=qd (qyw A5 Z);obtain⟨QB,sQ⟩:∃q,BS (qL t)=q:=⟨_,rfl⟩;have LF:=qd (LFg t);have QT:=qd (QTg t ((JE t bF).1));have BT:=qd ((JE t bF).2.1);have BP:=qd ((JE t bF).2.2);have BA:=qd (F k A5 (by rw[q9 HS];exact A7));rw[q9 HS]at BA;have KX:Hid (∀W,Xb wr W->(Kt1 W w.heap.size f (Xc W D k (.string (BS t))))):=qd λW hb=>q9 KXg wr W M hb k t bT
     have BD:Hid (∀W,Xb wr W->RfAt N W x f):=qd λW hb=>q9 IY W (qf M hb)
     have eC:Hid (∀b,N b->b<wr.heap.size):=qd λb h=>bg (sY b h) t9
     rw[sQ]at LF QT;have M7:(0:Int)<=(k:Int):=mw;have dV:(k:Int)<(S.length:Int):=mw;clear Z bF sQ bT
     go_upto_region 18 with(go_at_call 226;refine(QT _).mono ?_;rintro e wq⟨rfl,hq⟩;subst wq)
     go_cut [12] (λs12 wx=>∃eb re,s12=.pointer (some ⟨eb,0,none⟩)/\Hid (OutAt N wr wx eb (qk 8 x (qY t)) re))
     case first=>
      have OU:D<wr.heap.size:=mw;have KJ:¬w.heap.size=wr.heap.size:=mw;have KI:¬wr.heap.size=w.heap.size:=mw;have na3:¬D=wr.heap.size:=mw;have na4:¬wr.heap.size=D:=mw;have na5:w.heap.size<wr.heap.size:=mw;have na6:D<wr.heap.size:=mw;have TWA:Hid (∀(A:World) (C:RF),Xb wr A->RfAt (λb=>N b\/(wr.heap.size<=b/\b≠wr.heap.size)) A (qY t) C->wr.heap.size+1<=A.heap.size->TwC (λb=>N b\/(wr.heap.size<=b/\b≠wr.heap.size)) A ⟨#[61]⟩ f C (qk 8 x (qY t))):=qd λA C K h2 h3=>qii (o:=8) (by simp[vq]) K ((BD A K).keep (λ_ _ _=>rfl) nt (λ_ h _=>.inl h)) h2 mw bx BT
      have TWB:Hid (∀(A:World) (C:RF),Xb wr A->RfAt (λb=>N b\/wr.heap.size<=b) A (qY t) C->TwC (λb=>N b\/(wr.heap.size<=b/\b≠A.heap.size)) (A.alloc zoC) ⟨#[61]⟩ f C (qk 8 x (qY t))):=qd λA C K h2=>qii (o:=8) (by simp[vq]) (qf K (nw.alloc nt _)) ((BD _ (qf K (nw.alloc nt zoC))).keep (λ_ _ _=>rfl) nt (λ_ h _=>.inl h)) (qnr h2 _) mx bx BT
      have TWC:Hid (∀(A:World) (C:RF),Xb wr A->RfAt (λb=>N b\/wr.heap.size<=b) A (qY t) C->TwC (λb=>N b\/wr.heap.size<=b) A ⟨#[61]⟩ f C (qk 8 x (qY t))):=qd λA C K h2=>qy2 (o:=8) (by simp[vq]) K ((BD A K).keep (λ_ _ _=>rfl) nt (λ_ h _=>.inl h)) h2 bx BT
      go_region_held3 (λW=>Kt1 W w.heap.size f (Xc W D k (.string (BS t)))) (first|with_reducible assumption|(simp only[Kt1];go_keep)) (first|(go_at_call 227;have _q:=JR;refine(TWA A C rN JR D8).mono ?_;rintro e G⟨F,r3,rfl,U⟩;have eB:=qd U;have R:=qd (qf rN F);obtain⟨p0,p1,p2,p3,p4,p5,pz,S4⟩:=(q9 SM).below F;have aK:=q9 KX G R;clear F U)|(go_at_call 227;have _q:=tC;refine(TWB A C Y tC).mono ?_;rintro e G⟨F,r3,rfl,U⟩;have JI:=qd U;have R:=qd (qf (qf Y (nw.alloc nt _)) F);obtain⟨p0,p1,p2,p3,p4,p5,pz,S4⟩:=(xZ A).below F;have aK:=q9 KX G R;clear F U)|(go_at_call 227;have _q:=tC;refine(TWC A C Y tC).mono ?_;rintro e G⟨F,r3,rfl,U⟩;have cY:=qd U;have R:=qd (qf Y F);have rT:=F.size;have KG:¬w.heap.size=G.heap.size:=mw;have KF:¬G.heap.size=w.heap.size:=mw;have nc3:¬D=G.heap.size:=mw;have nc4:¬G.heap.size=D:=mw;have nc5:w.heap.size<G.heap.size:=mw;have nc6:D<G.heap.size:=mw;have aK:=q9 KX G R;clear F U)|(go_at_call 224;refine(LF (wr.alloc zoC).drew).mono ?_;rintro e A⟨I,C,rfl,P5⟩;have rN:=qd (qf ((Below.refl wr.heap.size wr).alloc nt zoC).drew I);have JR:Hid (RfAt (λb=>N b\/(wr.heap.size<=b/\b≠wr.heap.size)) A (qY t) C):=qd (P5.keep (λ_ _ _=>rfl) nt (λb h _=>(by rcases h with h|h;exact .inl h;right;have h':(wr.alloc zoC).heap.size<=b:=h;rw[World.size_alloc]at h';exact⟨mw,mw⟩)));have wK:=(xZ wr).drew.below I;have SM:=qd wK;have D8:wr.heap.size+1<=A.heap.size:=wK.lt;clear wK;have uB:=q9 KX A rN;clear I P5)|(go_at_call 224;refine(LF wr.drew).mono ?_;rintro e A⟨I,C,rfl,P5⟩;have Y:=qd (qf (Below.refl wr.heap.size wr).drew I);have tC:Hid (RfAt (λb=>N b\/wr.heap.size<=b) A (qY t) C):=qd P5;have D8:wr.heap.size<=A.heap.size:=I.size;have fB:¬w.heap.size=A.heap.size:=mw;have KH:¬A.heap.size=w.heap.size:=mw;have nb3:¬D=A.heap.size:=mw;have nb4:¬A.heap.size=D:=mw;have nb5:w.heap.size<A.heap.size:=mw;have nb6:D<A.heap.size:=mw;have uB:=q9 KX A Y;clear I P5))
      all_goals
       go_wp2_with fail
       go_meet
       first
        | (have _q:=eB;exact⟨_,r3,rfl,qd (OutAt.put R nt S4 eC (ex6 p0 p1 p2 p3 p4 p5) pz eB)⟩)
        | (have _q:=JI;exact⟨_,r3,rfl,qd (OutAt.put R Y.size S4 eC (ex6 p0 p1 p2 p3 p4 p5) pz JI)⟩)
        | (have _q:=cY;exact⟨_,r3,rfl,qd (OutAt.new R cY)⟩)
     case rest=>
      obtain⟨eb,re,rfl,HE⟩:=hcut;have aP:=qd (HO.below HE.bel);have X:=(q9 aP).cells;have AE:=(q9 HE).cells;have FI:=(q9 aP).lt;have helt:=(q9 HE).lt;have u0:Xc wc ob 0 (.string r.op):=X 0 mw;have u1:Xc wc ob 1 (.string (BS r.text)):=X 1 mw;have u2:Xc wc ob 2 (.int .i64 r.cls):=X 2 mw;have u3:Xc wc ob 3 (.slice r.pa r.pn r.pc):=X 3 mw;have u4:Xc wc ob 4 (.slice r.ta r.tn r.tc):=X 4 mw;have u5:Xc wc ob 5 (.slice r.ra r.rn r.rc):=X 5 mw;have v0:Xc wc eb 0 (.string re.op):=AE 0 mw;have v1:Xc wc eb 1 (.string (BS re.text)):=AE 1 mw;have v2:Xc wc eb 2 (.int .i64 re.cls):=AE 2 mw;have v3:Xc wc eb 3 (.slice re.pa re.pn re.pc):=AE 3 mw;have v4:Xc wc eb 4 (.slice re.ta re.tn re.tc):=AE 4 mw;have v5:Xc wc eb 5 (.slice re.ra re.rn re.rc):=AE 5 mw;have KL:=(q9 HE).bel.size
      have TWO:Hid (TwC (λb=>N b\/(w1.heap.size<=b/\b≠ob)) wc ⟨#[79,82]⟩ r re (qk 7 (amK x S k) (qk 8 x (qY t)))):=qd (qii (o:=7) (by simp[vq]) aP.bel aP.rf (HE.rf.keep (λ_ _ _=>rfl) nt (λb h _=>by
       rcases h with h|h
       ·exact .inl h
       ·exact .inr ⟨mw,mw⟩)) FI BA BP)
      clear X AE
      go_wp2_with(go_at_call 227;refine TWO.mono ?_;rintro e w5⟨m9,s,rfl,EX⟩;have oK:=qd (aP.below m9);have lD:=(q9 oK).cells;have x0:Xc w5 ob 0 (.string r.op):=lD 0 mw;have x1:Xc w5 ob 1 (.string (BS r.text)):=lD 1 mw;have x2:Xc w5 ob 2 (.int .i64 r.cls):=lD 2 mw;have x3:Xc w5 ob 3 (.slice r.pa r.pn r.pc):=lD 3 mw;have x4:Xc w5 ob 4 (.slice r.ta r.tn r.tc):=lD 4 mw;have x5:Xc w5 ob 5 (.slice r.ra r.rn r.rc):=lD 5 mw;have xz:=(q9 oK).fz;have xl:=(q9 oK).lt;have HS5:=qd EX;clear m9 lD EX)
      go_roundw
      case rel=>exact⟨k+1,s,mw,mw,by go_num,qd (by rw[q9 oH];exact OutAt.put oK.bel ON xl sY (λk hk=>by match k,hk with|0,_=>exact⟨_,x0⟩|1,_=>exact⟨_,x1⟩|2,_=>exact⟨_,x2⟩|3,_=>exact⟨_,x3⟩|4,_=>exact⟨_,x4⟩|5,_=>exact⟨_,x5⟩) xz HS5)⟩
      case measure=>simp[intOf];omega
    ·have U6:k=S.length:=mw
     have oX:¬(k:Int)<(S.length:Int):=mw;have IJ:amK x S k=vt x ts:=by rw[U6,←q9 HS];exact vf7 (by rw[q9 HS];exact GX)
     rw[IJ]at HO;have X:=(q9 HO).cells;have u0:Xc wr ob 0 (.string r.op):=X 0 mw;have u1:Xc wr ob 1 (.string (BS r.text)):=X 1 mw;have u2:Xc wr ob 2 (.int .i64 r.cls):=X 2 mw;have u3:Xc wr ob 3 (.slice r.pa r.pn r.pc):=X 3 mw;have u4:Xc wr ob 4 (.slice r.ta r.tn r.tc):=X 4 mw;have u5:Xc wr ob 5 (.slice r.ra r.rn r.rc):=X 5 mw;have q0:Xc wr (w.heap.size+1) 0 (.string ⟨#[]⟩):=((qj M).1 _ _ mw).trans Q0;have q1:Xc wr (w.heap.size+1) 1 (.string ⟨#[]⟩):=((qj M).1 _ _ mw).trans Q1;have q2:Xc wr (w.heap.size+1) 2 (.int .i64 0):=((qj M).1 _ _ mw).trans Q2;have q3:Xc wr (w.heap.size+1) 3 (.slice none 0 0):=((qj M).1 _ _ mw).trans Q3;have q4:Xc wr (w.heap.size+1) 4 (.slice none 0 0):=((qj M).1 _ _ mw).trans Q4;have q5:Xc wr (w.heap.size+1) 5 (.slice none 0 0):=((qj M).1 _ _ mw).trans Q5;have qz:Xf wr (w.heap.size+1):=λi=>((qj M).2 _ i mw).trans (QZ i)
     have ql:w.heap.size+1<wr.heap.size:=mw;have nq:¬ob=w.heap.size+1:=mw;have eG:=qd (qf UH M);clear U6 IJ X
     go_wp2_with fail
     refine ak (by simp[go_sem,q0,q1,q2,q3,q4,q5]<;>rfl) rfl ?_;have hs:=jm wr (w.heap.size+1) (.string r.op) (.string (BS r.text)) (.int .i64 r.cls) (.slice r.pa r.pn r.pc) (.slice r.ta r.tn r.tc) (.slice r.ra r.rn r.rc);exact⟨hs.bel _ _ mw eG,r,rfl,hs.rf HO.rf (by rintro (h|h);have:=q9 sY _ h;have:=hN _ h;omega;have:=h.1;omega) (λb h _=>by rcases h with h|h;exact .inl h;exact .inr (by have:=h.1;omega))⟩
end
section
abbrev cV(f:RF):Array Value:=#[.string f.op,.string (BS f.text),.int .i64 f.cls,.slice f.pa f.pn f.pc,.slice f.ta f.tn f.tc,.slice f.ra f.rn f.rc]
structure CnAt(w W:World)(x0 x1 x2 x3 x4 x5 x6 x7 x8:Value):Prop where
 n0:W.cell? ⟨w.heap.size,0,none⟩=some x0
 n1:W.cell? ⟨w.heap.size,1,none⟩=some x1
 n2:W.cell? ⟨w.heap.size,2,none⟩=some x2
 n3:W.cell? ⟨w.heap.size,3,none⟩=some x3
 n4:W.cell? ⟨w.heap.size,4,none⟩=some x4
 n5:W.cell? ⟨w.heap.size,5,none⟩=some x5
 n6:W.cell? ⟨w.heap.size,6,none⟩=some x6
 n7:W.cell? ⟨w.heap.size,7,none⟩=some x7
 n8:W.cell? ⟨w.heap.size,8,none⟩=some x8
 r0:W.cell? ⟨w.heap.size+1,0,none⟩=some (.string ⟨#[]⟩)
 r1:W.cell? ⟨w.heap.size+1,1,none⟩=some (.string ⟨#[]⟩)
 r2:W.cell? ⟨w.heap.size+1,2,none⟩=some (.int .i64 0)
 r3:W.cell? ⟨w.heap.size+1,3,none⟩=some (.slice none 0 0)
 r4:W.cell? ⟨w.heap.size+1,4,none⟩=some (.slice none 0 0)
 r5:W.cell? ⟨w.heap.size+1,5,none⟩=some (.slice none 0 0)
 rz:∀i,W.frozen? ⟨w.heap.size+1,i,none⟩=false
 rl:w.heap.size+1<W.heap.size
 a0:¬w.heap.size=W.heap.size
 a1:¬w.heap.size+1=W.heap.size
 a2:¬W.heap.size=w.heap.size
 a3:¬W.heap.size=w.heap.size+1
section
variable {w W W':World} {x0 x1 x2 x3 x4 x5 x6 x7 x8:Value}
theorem CnAt.below(h:CnAt w W x0 x1 x2 x3 x4 x5 x6 x7 x8)(u:Xb W W'):CnAt w W' x0 x1 x2 x3 x4 x5 x6 x7 x8:=by
 obtain⟨e,A⟩:=qj u;have n:=h.rl;have B:=u.size;have m:w.heap.size<W.heap.size:=mw;exact⟨(e _ _ m).trans h.n0,(e _ _ m).trans h.n1,(e _ _ m).trans h.n2,(e _ _ m).trans h.n3,(e _ _ m).trans h.n4,(e _ _ m).trans h.n5,(e _ _ m).trans h.n6,(e _ _ m).trans h.n7,(e _ _ m).trans h.n8,(e _ _ n).trans h.r0,(e _ _ n).trans h.r1,(e _ _ n).trans h.r2,(e _ _ n).trans h.r3,(e _ _ n).trans h.r4,(e _ _ n).trans h.r5,λi=>(A _ i n).trans (h.rz i),mw,mw,mw,mw,mw⟩
theorem CnAt.alloc(h:CnAt w W x0 x1 x2 x3 x4 x5 x6 x7 x8)(o:Obj):CnAt w (W.alloc o) x0 x1 x2 x3 x4 x5 x6 x7 x8:=h.below (nw.alloc nt o)
theorem CnAt.drew(h:CnAt w W x0 x1 x2 x3 x4 x5 x6 x7 x8):CnAt w W.drew x0 x1 x2 x3 x4 x5 x6 x7 x8:=⟨h.n0,h.n1,h.n2,h.n3,h.n4,h.n5,h.n6,h.n7,h.n8,h.r0,h.r1,h.r2,h.r3,h.r4,h.r5,h.rz,h.rl,h.a0,h.a1,h.a2,h.a3⟩
theorem jZ:CnAt w ((w.alloc (.cells #[x0,x1,x2,x3,x4,x5,x6,x7,x8] 241)).alloc zoC) x0 x1 x2 x3 x4 x5 x6 x7 x8:=by
 refine⟨?_, ?_, ?_, ?_, ?_, ?_, ?_, ?_, ?_, ?_, ?_, ?_, ?_, ?_, ?_,λi=>?_, ?_, ?_, ?_, ?_, ?_⟩<;>simp[go_sem]<;>omega
end
def vI(w:World)(PZ:RF->World->Prop):Prop:=∀W,Below w.heap.size w W->w.heap.size+1+1<=W.heap.size->Calls prog 224 #[.string ⟨#[110,117,109,98,101,114]⟩,.string ⟨#[48]⟩,.int .i64 2,.int .i64 0] W λe w'=>Below W.heap.size W w'/\∃z:RF,e=.returned z.v/\PZ z w'
def jj(w:World)(PZ P:RF->World->Prop)(fn:Nat)(args:RF->Array Value):Prop:=∀wz z W,Below w.heap.size w wz->w.heap.size+1<wz.heap.size->PZ z wz->Below wz.heap.size wz W->Calls prog fn (args z) W λe w'=>Below W.heap.size W w'/\∃r:RF,e=.returned r.v/\P r w'
def ja(w:World)(P:RF->World->Prop)(Q:Ending->World->Prop):Prop:=∀r w1 w',Below w.heap.size w w1->P r w1->SixAt (w.heap.size+1) w1 w'->Q (.returned r.v) w'
theorem vhs(e:∀k,k<6->W.cell? ⟨b,k,none⟩=(qt g)[k]?):Kx1 W b g:=⟨e 0 mw,e 1 mw,e 2 mw,e 3 mw,e 4 mw,e 5 mw⟩
theorem OutAt.k1{wr:World}(h:OutAt N w1 wr ob c r):Kx1 wr ob r:=vhs h.cells
theorem vm9(e:∀k,k<12->W.cell? ⟨b,k,none⟩=(qt g++qt h)[k]?):Kx2 W b g h:=⟨e 0 mw,e 1 mw,e 2 mw,e 3 mw,e 4 mw,e 5 mw,e 6 mw,e 7 mw,e 8 mw,e 9 mw,e 10 mw,e 11 mw⟩
theorem vma(e:∀k,k<18->W.cell? ⟨b,k,none⟩=(qt g++qt h++qt j)[k]?):Kx3 W b g h j:=⟨e 0 mw,e 1 mw,e 2 mw,e 3 mw,e 4 mw,e 5 mw,e 6 mw,e 7 mw,e 8 mw,e 9 mw,e 10 mw,e 11 mw,e 12 mw,e 13 mw,e 14 mw,e 15 mw,e 16 mw,e 17 mw⟩
theorem kb1(u:b<w.heap.size)(m:∀k,k<6->w.cell? ⟨b,k,none⟩=(qt g)[k]?):Hid (∀W,Xb w W->(Kx1 W b g)):=qd λ_ n=>vhs λi e=>(n.cell (p:=⟨b,i,none⟩) u).trans (m i e)
theorem kb2(u:b<w.heap.size)(m:∀k,k<12->w.cell? ⟨b,k,none⟩=(qt g++qt h)[k]?):Hid (∀W,Xb w W->(Kx2 W b g h)):=qd λ_ n=>vm9 λi e=>(n.cell (p:=⟨b,i,none⟩) u).trans (m i e)
theorem kb3(u:b<w.heap.size)(m:∀k,k<18->w.cell? ⟨b,k,none⟩=(qt g++qt h++qt j)[k]?):Hid (∀W,Xb w W->(Kx3 W b g h j)):=qd λ_ n=>vma λi e=>(n.cell (p:=⟨b,i,none⟩) u).trans (m i e)
theorem qc9{N c:Int}(ho:O=⟨#[84,82,85,69]⟩\/O=⟨#[70,65,76,83,69]⟩)
   (J:vI w PZ) (L:jj w PZ P 224 λ_=>#[.string O,.string O,.int .i64 1,.int .i64 0])
   (K:ja w P Q):nz 178 #[.agg #[.string O,.int .i64 a,iv,.string S,.string E,lv,.int .i64 N,.bool neg,.int .i64 c],inv] w Q:=by
 have M:=qd J;have R:=qd L;have I:=qd K;simp only[vI,jj,ja,RF.v]at M R I;have G:Hid (Xb w ((w.alloc (.cells #[.string O,.int .i64 a,iv,.string S,.string E,lv,.int .i64 N,.bool neg,.int .i64 c] 241)).alloc zoC)):=qd ((nw.alloc nt _).alloc mx _);clear J L K;rcases ho with rfl|rfl
 all_goals go_enter func178,ntmps178
 all_goals go_wp2_with(first|(go_at_call 224;refine(R _ _ _ H U Y8 F).mono ?_;rintro e w1⟨n,r,rfl,A⟩;have C9:=qd (qf (qf H F) n);obtain⟨-,-,-,-,-,-,-,-,-,q0,q1,q2,Z,Y,X,qz,ql,-,-,-,-⟩:=(q9 D).below n;have Q9:=qd A;clear n A)|(go_at_call 224;refine(M _ G mx).mono ?_;rintro e u⟨m,z,rfl,C⟩;have H:=qd (qf G m);have B:=jZ.below m;have D:=qd (B.alloc (.cells (cV z) 184));have F:=qd ((Below.refl u.heap.size u).alloc nt (.cells (cV z) 184));have Y8:=qd C;obtain⟨n0,-,-,-,-,-,-,-,-,r0,r1,r2,r3,r4,r5,rz,U,iG,iF,iE,iD⟩:=B;obtain⟨m0,-,-,-,-,-,-,-,-,s0,s1,s2,s3,s4,s5,sz,sl,-,-,-,-⟩:=q9 D;clear m C))
 all_goals refine ak (by simp[go_sem,q0,q1,q2,Z,Y,X]<;>rfl) rfl ?_
 all_goals exact q9 I r w1 _ C9 Q9 (jm _ _ _ _ _ _ _ _)
theorem qqy{N c:Int}
   (J:vI w PZ) (L:jj w PZ P 224 λ_=>#[.string ⟨#[110,97,109,101]⟩,.string S,.int .i64 0,.int .i64 (S.size:Nat)])
   (K:ja w P Q):nz 178 #[.agg #[.string ⟨#[110,97,109,101]⟩,.int .i64 a,iv,.string S,.string E,lv,.int .i64 N,.bool neg,.int .i64 c],inv] w Q:=by
 have M:=qd J;have R:=qd L;have I:=qd K;simp only[vI,jj,ja,RF.v]at M R I;have G:Hid (Xb w ((w.alloc (.cells #[.string ⟨#[110,97,109,101]⟩,.int .i64 a,iv,.string S,.string E,lv,.int .i64 N,.bool neg,.int .i64 c] 241)).alloc zoC)):=qd ((nw.alloc nt _).alloc mx _);clear J L K;go_enter func178,ntmps178
 go_wp2_with(first|(go_at_call 224;refine(R _ _ _ H U Y8 F).mono ?_;rintro e w1⟨n,r,rfl,A⟩;have C9:=qd (qf (qf H F) n);obtain⟨-,-,-,-,-,-,-,-,-,q0,q1,q2,Z,Y,X,qz,ql,-,-,-,-⟩:=(q9 D).below n;have Q9:=qd A;clear n A)|(go_at_call 224;refine(M _ G mx).mono ?_;rintro e u⟨m,z,rfl,C⟩;have H:=qd (qf G m);have B:=jZ.below m;have D:=qd (B.alloc (.cells (cV z) 184));have F:=qd ((Below.refl u.heap.size u).alloc nt (.cells (cV z) 184));have Y8:=qd C;obtain⟨n0,-,-,n3,-,-,-,-,-,r0,r1,r2,r3,r4,r5,rz,U,iG,iF,iE,iD⟩:=B;obtain⟨m0,-,-,m3,-,-,-,-,-,s0,s1,s2,s3,s4,s5,sz,sl,-,-,-,-⟩:=q9 D;clear m C))
 all_goals refine ak (by simp[go_sem,q0,q1,q2,Z,Y,X]<;>rfl) rfl ?_
 all_goals exact q9 I r w1 _ C9 Q9 (jm _ _ _ _ _ _ _ _)
theorem qho{N c:Int}(L:∀W,nz 225 #[.int .i64 N] W λe w'=>e=.returned (.string QB)/\Xb W w')
   (K:vI w PZ) (R:jj w PZ P 224 λ_=>#[.string ⟨#[110,117,109,98,101,114]⟩,.string QB,.int .i64 2,.int .i64 0])
   (M:ja w P Q):nz 178 #[.agg #[.string ⟨#[110,117,109,98,101,114]⟩,.int .i64 a,iv,.string S,.string E,lv,.int .i64 N,.bool neg,.int .i64 c],inv] w Q:=by
 have U:=qd K;have X:=qd R;have J:=qd M;simp only[vI,jj,ja,RF.v]at U X J;have H:Hid (Xb w ((w.alloc (.cells #[.string ⟨#[110,117,109,98,101,114]⟩,.int .i64 a,iv,.string S,.string E,lv,.int .i64 N,.bool neg,.int .i64 c] 241)).alloc zoC)):=qd ((nw.alloc nt _).alloc mx _);clear K R M;have DT:=qd L;clear L;go_enter func178,ntmps178
 go_wp2_with(first|(go_at_call 224;refine(X _ _ _ I Y Y8 n).mono ?_;rintro e w1⟨B,r,rfl,D⟩;have C9:=qd (qf (qf I n) B);obtain⟨-,-,-,-,-,-,-,-,-,q0,q1,q2,q3,q4,Z,qz,ql,-,-,-,-⟩:=(q9 m).below B;have Q9:=qd D;clear B D)|(go_at_call 225;refine(DT _).mono ?_;rintro e wn⟨rfl,u⟩;have n:=qd (qf n u);have m:=qd (m.below u);clear u)|(go_at_call 224;refine(U _ H mx).mono ?_;rintro e C⟨A,z,rfl,G⟩;have I:=qd (qf H A);have F:=jZ.below A;have m:=qd (F.alloc (.cells (cV z) 184));have n:=qd ((Below.refl C.heap.size C).alloc nt (.cells (cV z) 184));have Y8:=qd G;obtain⟨n0,-,-,-,-,-,n6,-,-,r0,r1,r2,r3,r4,r5,rz,Y,iG,iF,iE,iD⟩:=F;obtain⟨m0,-,-,-,-,-,m6,-,-,s0,s1,s2,s3,s4,s5,sz,sl,-,-,-,-⟩:=q9 m;clear A G))
 all_goals refine ak (by simp[go_sem,q0,q1,q2,q3,q4,Z]<;>rfl) rfl ?_
 all_goals exact q9 J r w1 _ C9 Q9 (jm _ _ _ _ _ _ _ _)
theorem qr0{N c:Int}(K:∀W,nz 226 #[.string S] W λe w'=>e=.returned (.string QB)/\w'=W)
   (J:vI w PZ) (M:jj w PZ P 224 λ_=>#[.string ⟨#[116,101,120,116]⟩,.string QB,.int .i64 3,.int .i64 (S.size:Nat)])
   (L:ja w P Q):nz 178 #[.agg #[.string ⟨#[116,101,120,116]⟩,.int .i64 a,iv,.string S,.string E,lv,.int .i64 N,.bool neg,.int .i64 c],inv] w Q:=by
 have R:=qd J;have U:=qd M;have I:=qd L;simp only[vI,jj,ja,RF.v]at R U I;have G:Hid (Xb w ((w.alloc (.cells #[.string ⟨#[116,101,120,116]⟩,.int .i64 a,iv,.string S,.string E,lv,.int .i64 N,.bool neg,.int .i64 c] 241)).alloc zoC)):=qd ((nw.alloc nt _).alloc mx _);clear J M L;have DT:=qd K;clear K;go_enter func178,ntmps178
 go_wp2_with(go_at_call 224;refine(R _ G mx).mono ?_;rintro e u⟨m,z,rfl,C⟩;have H:=qd (qf G m);have B:=jZ.below m;have D:=qd (B.alloc (.cells (cV z) 184));have F:=qd ((Below.refl u.heap.size u).alloc nt (.cells (cV z) 184));have Y8:=qd C;obtain⟨n0,-,-,n3,-,-,-,-,-,r0,r1,r2,r3,r4,r5,rz,Z,iG,iF,iE,iD⟩:=B;obtain⟨m0,-,-,m3,-,-,-,-,-,s0,s1,s2,s3,s4,s5,sz,sl,-,-,-,-⟩:=q9 D;clear m C)
 go_region_held3 (λW=>Xc W w.heap.size 3 (.string S)) (first|with_reducible assumption|go_keep) (first|(go_at_call 224;refine(U _ _ _ H Z Y8 F.drew).mono ?_;rintro e w1⟨n,r,rfl,A⟩;have C9:=qd (qf (qf H F.drew) n);obtain⟨-,-,-,Y,-,-,-,-,-,q0,q1,q2,q3,q4,q5,qz,ql,-,-,-,-⟩:=(q9 D).drew.below n;have Q9:=qd A;have hS:(Xc w1 w.heap.size 3 (.string S)):=Y;clear n A)|(go_at_call 226;refine(DT _).mono ?_;rintro e X⟨rfl,hq⟩;subst X))
 go_wp2_with fail
 all_goals refine ak (by simp[go_sem,q0,q1,q2,q3,q4,q5]<;>rfl) rfl ?_
 all_goals exact q9 I r w1 _ C9 Q9 (jm _ _ _ _ _ _ _ _)
end
section
def kn(p:Pay):List Co->Co
 | []=>.leaf (xA p)
 | [x]=>if p.op==14 then qk 16 (kd 0) x else if p.op==15 then qk 17 (kd 0) x else if p.op==5 then qW x
   else if p.op==21 then vt x p.texts else .un (xA p) x
 | [x,y]=>if p.op==12 then qk 10 y x else if p.op==13 then qk 11 y x else if p.op==9 then qW (qk 8 x y) else qk p.op x y
 | x::y::z::_=>qk 6 (qk 11 y x) (qk 11 x z)
def nC:Co:=.leaf (qm 3)
def vfa(cs:List Co)(n:RN):List Co:=n.ins.map λk=>cs.getD k nC
def qev(cs:List Co)(n:RN):Co:=if n.neg=true then qW (kn (qcx n) (vfa cs n)) else kn (qcx n) (vfa cs n)
def kB:List Co->List RN->List Co
 | cs,[]=>cs
 | cs,n::t=>kB (cs++[qev cs n]) t
theorem pm(cs:List Co)(l k:List RN):kB cs (l++k)=kB (kB cs l) k:=by
 induction l generalizing cs with
 | nil=>rfl
 | cons n t ih=>rw[cm,kB,kB];exact ih _
theorem vcj:∀(l:List RN) (cs:List Co),(kB cs l).length=cs.length+l.length:=by
 intro l
 induction l with
 | nil=>intro cs;rfl
 | cons n t ih=>intro cs;rw[kB,ih];simp;omega
theorem qwu{e:List RN}{n:RN}{cs:List Co}(u:e[k]?=some n)(m:kB [] (e.take k)=cs):kB [] (e.take (k+1))=cs++[qev cs n]:=by
 rw[dn,u,pm,m];rfl
theorem yx:∀c,WfC c->(qB c).length<=(qp c).length+1:=by
 intro c
 induction c with
 | leaf p=>intro _;simp[qB]
 | un p x ih=>
  intro h;have u:=ih h.2
  have n:(qp x).length+1<=(qp (.un p x)).length:=by
   show _<=(qE p (qp x) []).length;have m:=h.1;unfold unB at m;simp only[dk,dg]at m;rcases m with(e|e)|e<;>(unfold qE;simp[e]<;>omega)
  simp[qB];omega
 | bin p x y ihx ihy=>
  intro h;have u:=ihx h.2.1;have n:=ihy h.2.2;have A:=jv h.1 x y;simp[qB];omega
structure Gc(c:Co):Prop where
 len:(qp c).length<=120000000
 un:uC c<=200
 wt:WT c
theorem Gc.sz(h:Gc c):SzC c:=⟨by have:=h.len;have:=h.un;omega,by have:=h.len;have:=h.un;have:=yx c h.wt.wf;omega⟩
theorem Gc.big(h:Gc c):kg c:=h.sz.big
theorem vie(h:vq o):qph o=true/\vY o=false/\unB o=false:=by
 rcases h with rfl|rfl|rfl|rfl|rfl|rfl|rfl|rfl|rfl<;>exact⟨rfl,rfl,rfl⟩
theorem qx9(o:Int):(jo o).length<=3:=by
 unfold jo
 repeat' split
 all_goals simp
theorem jR(u:vq o)(n:WT x)(m:WT y)(e:o=6\/o=7->Tb x/\Tb y):WT (qk o x y):=by
 unfold qk
 split
 ·exact⟨u,λh=>⟨(e h).2,(e h).1⟩,m,n⟩
 ·exact⟨u,e,n,m⟩
theorem vh6(o:Int)(x y:Co):opC (qk o x y)=o:=by
 unfold qk
 split<;>rfl
theorem zE(h:o=6\/o=7\/o=8\/o=10\/o=11)(x y:Co):Tb (qk o x y):=by
 right
 rw[vh6];rcases h with rfl|rfl|rfl|rfl|rfl<;>rfl
theorem vet:∀{c:Co},WT c->Tb c->WT (qW c)/\Tb (qW c):=by
 intro c
 induction c with
 | leaf p=>
  intro h m;unfold qW
  split
  ·exact⟨⟨nh,nh⟩,.inr rfl⟩
  ·split
   ·exact⟨⟨nh,nh⟩,.inr rfl⟩
   ·exact⟨⟨.inl rfl,λ_=>m,h⟩,.inr rfl⟩
 | un p x ih=>
  intro h m;unfold qW
  split
  ·rename_i n
   simp only[cn,dg]at n;exact⟨h.2.2,h.2.1 n.1⟩
  ·exact⟨⟨.inl rfl,λ_=>m,h⟩,.inr rfl⟩
 | bin p x y ihx ihy=>
  intro h m
  have two:∀o,o=6\/o=7->(p.op=6\/p.op=7)->WT (qk o (qW x) (qW y))/\Tb (qk o (qW x) (qW y)):=λo B A=>by
   obtain⟨u,ty⟩:=h.2.1 A;obtain⟨a,b⟩:=ihx h.2.2.1 u;obtain⟨c,d⟩:=ihy h.2.2.2 ty;exact⟨jR (by unfold vq;omega) a c (λ_=>⟨b,d⟩),zE mw _ _⟩
  unfold qW
  split
  ·rename_i e;exact two 7 (.inr rfl) (.inl (eq_of_beq e))
  ·split
   ·rename_i e;exact two 6 (.inl rfl) (.inr (eq_of_beq e))
   ·split
    ·exact⟨jR (by unfold vq;omega) h.2.2.2 h.2.2.1 mw,zE mw _ _⟩
    ·split
     ·exact⟨jR (by unfold vq;omega) h.2.2.2 h.2.2.1 mw,zE mw _ _⟩
     ·exact⟨⟨.inl rfl,λ_=>m,h⟩,.inr rfl⟩
theorem vim(t:mv):WT (qY t):=⟨by show(0:Int)<=2;decide,by show(2:Int)<=4;decide⟩
theorem veu(n:Int):WT (kd n):=⟨by show(0:Int)<=1;decide,by show(1:Int)<=4;decide⟩
theorem vkk(e:WT x)(t:mv):WT (qk 8 x (qY t))/\Tb (qk 8 x (qY t)):=⟨jR (by unfold vq;omega) e (vim t) mw,zE mw _ _⟩
theorem vdp(n:WT x):∀(r:List mv) (f:Co),WT f->Tb f->WT (jM x f r)/\Tb (jM x f r):=by
 intro r
 induction r with
 | nil=>intro f m e;exact⟨m,e⟩
 | cons t r ih=>
  intro f m e;obtain⟨a,b⟩:=vkk n t;exact ih _ (jR (by unfold vq;omega) m a (λ_=>⟨e,b⟩)) (zE mw _ _)
theorem vdo(e:WT x)(m:ts≠[]):WT (vt x ts)/\Tb (vt x ts):=by
 unfold vt
 cases h:vf ts with
 | nil=>exact absurd h (qay m)
 | cons t r=>
  obtain⟨a,b⟩:=vkk e t;exact vdp e r _ a b
theorem qjm{want m c k:Int}{e:List CRes}(h:zm want m c e=.ok k):k=c:=by
 unfold zm at h
 split at h
 ·injection h with h;exact h.symm
 ·cases h
theorem vdu{x:Ast}{k:Int}(u:ShA (.un p x))(m:qv (.un p x)=.ok k):∃d,qv x=.ok d/\(p.op=5->d=3\/d=0):=by
 have m:qK p.op p.place [qv x]=.ok k:=m;rcases u.1 with e|e|e|e|e|e
 ·rw[e]at m
  obtain⟨d,n,B⟩:=qS (show zm 3 p.place 3 [qv x]=.ok k from m) (qv x) mx;exact⟨d,n,λ_=>B⟩
 ·rw[e]at m
  obtain⟨d,n,_⟩:=qS (show zm 1 p.place 1 [qv x]=.ok k from m) (qv x) mx;exact⟨d,n,λh=>mw⟩
 ·rw[e]at m
  obtain⟨d,n,_⟩:=qS (show zm 1 p.place 1 [qv x]=.ok k from m) (qv x) mx;exact⟨d,n,λh=>mw⟩
 all_goals
  obtain⟨q,rfl,A⟩:=zV u.2.2.2 (u.2.2.1 mw);exact⟨0,by show qK q.op q.place []=.ok 0;rw[A];rfl,λ_=>.inr rfl⟩
theorem qta{x y:Ast}{k:Int}(H:ShA (.bin p x y))(m:qv (.bin p x y)=.ok k):∃d e,qv x=.ok d/\qv y=.ok e/\(p.op=6\/p.op=7->(d=3\/d=0)/\(e=3\/e=0)):=by
 have m:qK p.op p.place [qv x,qv y]=.ok k:=m
 have F:∀w B,zm w p.place B [qv x,qv y]=.ok k->∃d e,qv x=.ok d/\qv y=.ok e/\(d=w\/d=0)/\(e=w\/e=0):=λw B h=>by
  obtain⟨d,u,n⟩:=qS h (qv x) mx;obtain⟨e,C,I⟩:=qS h (qv y) mx;exact⟨d,e,u,C,n,I⟩
 have A:∀B,zm 1 p.place B [qv x,qv y]=.ok k->¬(p.op=6\/p.op=7)->∃d e,qv x=.ok d/\qv y=.ok e/\(p.op=6\/p.op=7->(d=3\/d=0)/\(e=3\/e=0)):=λB h D=>by
  obtain⟨d,e,u,n,_⟩:=F 1 B h;exact⟨d,e,u,n,λh=>absurd h D⟩
 have G:zk p.place (qv x) (qv y)=.ok k->¬(p.op=6\/p.op=7)->∃d e,qv x=.ok d/\qv y=.ok e/\(p.op=6\/p.op=7->(d=3\/d=0)/\(e=3\/e=0)):=λh D=>by
  obtain⟨⟨d,u⟩,e,n⟩:=gO h;exact⟨d,e,u,n,λh=>absurd h D⟩
 rcases(show p.op=6\/p.op=7\/p.op=8\/p.op=9\/p.op=10\/p.op=11\/p.op=12\/p.op=13\/p.op=16\/p.op=17\/p.op=18\/p.op=19 by have:=H.1;omega) with e|e|e|e|e|e|e|e|e|e|e|e<;>rw[e]at m
 ·obtain⟨d,f,u,n,C⟩:=F 3 3 m;exact⟨d,f,u,n,λ_=>C⟩
 ·obtain⟨d,f,u,n,C⟩:=F 3 3 m;exact⟨d,f,u,n,λ_=>C⟩
 ·exact G m mw
 ·exact G m mw
 ·exact A 3 m mw
 ·exact A 3 m mw
 ·exact A 3 m mw
 ·exact A 3 m mw
 ·exact A 1 m mw
 ·exact A 1 m mw
 ·exact A 1 m mw
 ·exact A 1 m mw
theorem qtd{x y z:Ast}{k:Int}(u:ShA (.tri p x y z))(e:qv (.tri p x y z)=.ok k):(∃d,qv x=.ok d)/\(∃d,qv y=.ok d)/\∃d,qv z=.ok d:=by
 have e:qK p.op p.place [qv x,qv y,qv z]=.ok k:=e;rw[u.1]at e;have e:zm 1 p.place 3 [qv x,qv y,qv z]=.ok k:=e;obtain⟨C,x1,_⟩:=qS e (qv x) mx;obtain⟨B,n,_⟩:=qS e (qv y) mx;obtain⟨A,m,_⟩:=qS e (qv z) mx;exact⟨⟨_,x1⟩,⟨_,n⟩,_,m⟩
theorem qyk:∀t,ShA t->∀k,qv t=.ok k->WT (qi t)/\(k=3\/k=0->Tb (qi t)):=by
 intro t
 induction t with
 | leaf p=>
  intro n k m;refine⟨⟨n.1,n.2⟩,λH=>?_⟩;have m:qK p.op p.place []=.ok k:=m;show p.op=0\/qja p.op=1;have D:=n.1;have C:=n.2;rcases(show p.op=0\/p.op=1\/p.op=2\/p.op=3\/p.op=4 by omega) with e|e|e|e|e<;>rw[e]at m ⊢
  ·exact .inl rfl
  ·simp[qK]at m;omega
  ·simp[qK]at m;omega
  ·exact .inr rfl
  ·exact .inr rfl
 | un p x ih=>
  intro n k m;obtain⟨d,hd,I⟩:=vdu n m;obtain⟨u,F⟩:=ih n.2.2.2 d hd;have m:qK p.op p.place [qv x]=.ok k:=m;rcases n.1 with e|e|e|e|e|e
  ·rw[show qi (.un p x)=qW (qi x) by rw[qi,e];rfl]
   have:=vet u (F (I e));exact⟨this.1,λ_=>this.2⟩
  ·rw[show qi (.un p x)=qk 16 (kd 0) (qi x) by rw[qi,e];rfl]
   rw[e]at m;have:=qjm (show zm 1 p.place 1 [qv x]=.ok k from m);exact⟨jR (by unfold vq;omega) (veu 0) u mw,mw⟩
  ·rw[show qi (.un p x)=qk 17 (kd 0) (qi x) by rw[qi,e];rfl]
   rw[e]at m;have:=qjm (show zm 1 p.place 1 [qv x]=.ok k from m);exact⟨jR (by unfold vq;omega) (veu 0) u mw,mw⟩
  ·rw[show qi (.un p x)=vt (qi x) p.texts by rw[qi,e];rfl]
   have:=vdo u (n.2.1 e);exact⟨this.1,λ_=>this.2⟩
  ·rw[show qi (.un p x)=.un (xA p) (qi x) by rw[qi,e];rfl]
   exact⟨⟨.inr (.inl e),λh=>absurd (show p.op=5 from h) mw,u⟩,λ_=>.inr (by show qja p.op=1;rw[e];rfl)⟩
  ·rw[show qi (.un p x)=.un (xA p) (qi x) by rw[qi,e];rfl]
   exact⟨⟨.inr (.inr e),λh=>absurd (show p.op=5 from h) mw,u⟩,λ_=>.inr (by show qja p.op=1;rw[e];rfl)⟩
 | bin p x y ihx ihy=>
  intro n k m;obtain⟨d,e,D,C,B⟩:=qta n m;obtain⟨u,F⟩:=ihx n.2.1 d D;obtain⟨A,ty⟩:=ihy n.2.2 e C
  by_cases E7:p.op=12
  ·rw[show qi (.bin p x y)=qk 10 (qi y) (qi x) by rw[qi,E7];rfl]
   exact⟨jR (by unfold vq;omega) A u mw,λ_=>zE mw _ _⟩
  by_cases O7:p.op=13
  ·rw[show qi (.bin p x y)=qk 11 (qi y) (qi x) by rw[qi,O7];rfl]
   exact⟨jR (by unfold vq;omega) A u mw,λ_=>zE mw _ _⟩
  by_cases h9:p.op=9
  ·rw[show qi (.bin p x y)=qW (qk 8 (qi x) (qi y)) by rw[qi,h9];rfl]
   have:=vet (jR (by unfold vq;omega) u A mw) (zE (o:=8) mw (qi x) (qi y));exact⟨this.1,λ_=>this.2⟩
  rw[show qi (.bin p x y)=qk p.op (qi x) (qi y) by rw[qi,aj (by simpa using E7),aj (by simpa using O7),aj (by simpa using h9)]];refine⟨jR (by have:=n.1;unfold vq;omega) u A λh=>⟨F (B h).1,ty (B h).2⟩,λH=>zE ?_ _ _⟩;have J:=n.1
  by_cases h16:16<=p.op
  ·have m:qK p.op p.place [qv x,qv y]=.ok k:=m
   have:zm 1 p.place 1 [qv x,qv y]=.ok k:=by
    rcases(show p.op=16\/p.op=17\/p.op=18\/p.op=19 by omega) with e|e|e|e<;>(rw[e]at m;exact m)
   have:=qjm this;omega
  ·omega
 | tri p x y z ihx ihy ihz=>
  intro n k m;obtain⟨⟨_,D⟩,⟨_,C⟩,_,B⟩:=qtd n m;have u:=(ihx n.2.1 _ D).1;have A:=(ihy n.2.2.1 _ C).1;have G:=(ihz n.2.2.2 _ B).1;exact⟨jR (by unfold vq;omega) (jR (by unfold vq;omega) A u mw) (jR (by unfold vq;omega) u G mw) (λ_=>⟨zE mw _ _,zE mw _ _⟩),λ_=>zE mw _ _⟩
def GcA:Ast->Prop
 | .leaf p=>Gc (qi (.leaf p))
 | .un p x=>Gc (qi (.un p x))/\(p.op=5->Tb (qi x))/\(p.op=21->(qp (qi x)).length<=402/\p.texts≠[]/\∀t∈p.texts,t.length<=200)/\GcA x
 | .bin p x y=>Gc (qi (.bin p x y))/\GcA x/\GcA y
 | .tri p x y z=>Gc (qi (.tri p x y z))/\GcA x/\GcA y/\GcA z
theorem GcA.gc{t:Ast}(h:GcA t):Gc (qi t):=by
 cases t with
 | leaf p=>exact h
 | un p x=>exact h.1
 | bin p x y=>exact h.1
 | tri p x y z=>exact h.1
theorem qat{t:Ast}(h:Gd t)(e:ndA t<=200)(m:ShA t){k:Int}(n:qv t=.ok k):Gc (qi t):=by
 refine⟨?_,bs h.un e,(qyk t m k n).1⟩;have A:=h.len;have u:ndA t * ndA t<=200 * 200:=ln e e;omega
theorem qtx:∀t,GdA t->ndA t<=200->ShA t->qg6 t->qg9 t->BqA t->∀k,qv t=.ok k->GcA t:=by
 intro t
 induction t with
 | leaf p=>intro n D m _ _ _ k u;exact qat n D m u
 | un p x ih=>
  intro n D m C B A k u;obtain⟨d,hd,J⟩:=vdu m u;have H:ndA (.un p x)=1+p.texts.length+ndA x:=rfl;refine⟨qat n.1 D m u,λe=>(qyk x m.2.2.2 d hd).2 (J e),λe=>⟨?_,m.2.1 e,A.1.2⟩,ih n.2 mw m.2.2.2 C.2 B.2 A.2 d hd⟩;obtain⟨q,rfl,I⟩:=zV m.2.2.2 (m.2.2.1 mw);exact gV (xA q) C.2.1 B.2 (by unfold vY;simp[xA,I])
 | bin p x y ihx ihy=>
  intro n D m C B A k u;obtain⟨d,e,G,F,_⟩:=qta m u;have H:ndA (.bin p x y)=1+ndA x+ndA y:=rfl;exact⟨qat n.1 D m u,ihx n.2.1 mw m.2.1 C.2.1 B.2.1 A.2.1 d G,ihy n.2.2 mw m.2.2 C.2.2 B.2.2 A.2.2 e F⟩
 | tri p x y z ihx ihy ihz=>
  intro n D m C B A k u;obtain⟨⟨_,G⟩,⟨_,F⟩,_,K⟩:=qtd m u;have H:ndA (.tri p x y z)=1+ndA x+ndA y+ndA z:=rfl;exact⟨qat n.1 D m u,ihx n.2.1 mw m.2.1 C.2.1 B.2.1 A.2.1 _ G,ihy n.2.2.1 mw m.2.2.1 C.2.2.1 B.2.2.1 A.2.2.1 _ F,ihz n.2.2.2 mw m.2.2.2 C.2.2.2 B.2.2.2 A.2.2.2 _ K⟩
end
end Go.Proofs.YtfkcaldjphakpaaGreatDoor
