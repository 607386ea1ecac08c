/- The reader of programs -/
import Derived.Test.YtfkcaldjphakpaaGreatDoorM23
import Derived.Test.YtfkcaldjphakpaaGreatDoorM11
set_option maxHeartbeats 4000000
namespace Go.Proofs.YtfkcaldjphakpaaGreatDoor
open Go.RowKit Go.Proofs.Tryz
variable{a:Act}{L:List Tk}{r:mv}{A b o rb:Nat}{f g:TS->TRes}{v0 v1 v2 v3 v4 v5:Value}{W w w':World}
structure Tm where
 op:Nat
 left:Nat
 right:Nat
 num:Int
 str:List UInt8
 esc:List UInt8
def Tm.bare(op:Nat):Tm:=⟨op,0,0,0,[],[]⟩
def xH(t:Tm):List Value:=[.int .i64 t.op,.int .i64 t.left,.int .i64 t.right,.int .i64 t.num,.string (BS t.str),.string (BS t.esc)]
def tmV(t:Tm):Value:=.agg #[.int .i64 t.op,.int .i64 t.left,.int .i64 t.right,.int .i64 t.num,.string (BS t.str),.string (BS t.esc)]
def jk(op:Nat):Bool:=op==6||op==7||op==8||op==10||op==11||op==16||op==17||op==18||op==19
def Ps.body(s:Ps)(pl:Nat)(op:Nat):Tm×Ps:=
 if op=3\/op=4 then(.bare op,s)
 else if op=1 then(⟨op,0,0,s.number.1,[],[]⟩,s.number.2)
 else if op=22 then(⟨op,(s.upTo ((pl:Int) - 1)).1,0,0,(((s.upTo ((pl:Int) - 1)).2.text 1).2.text 200).1,((s.upTo ((pl:Int) - 1)).2.text 1).1⟩,(((s.upTo ((pl:Int) - 1)).2.text 1).2.text 200).2)
 else if op=0\/op=2 then(⟨op,0,0,0,(s.text 200).1,[]⟩,(s.text 200).2)
 else if jk op then(⟨op,((s.upTo ((pl:Int) - 1)).2.upTo ((pl:Int) - 1)).1,(s.upTo ((pl:Int) - 1)).1,0,[],[]⟩,((s.upTo ((pl:Int) - 1)).2.upTo ((pl:Int) - 1)).2)
 else if op=5\/op=23 then(⟨op,(s.upTo ((pl:Int) - 1)).1,0,0,[],[]⟩,(s.upTo ((pl:Int) - 1)).2)
 else(.bare op,failS)
def Ps.term(s:Ps)(pl:Nat):Tm×Ps:=s.next.2.body pl s.next.1.toNat
structure TmAt(w:World)(b:Nat)(t:Tm):Prop where
 lt:b<w.heap.size
 c0:w.cell? ⟨b,0,none⟩=some (.int .i64 t.op)
 c1:w.cell? ⟨b,1,none⟩=some (.int .i64 t.left)
 c2:w.cell? ⟨b,2,none⟩=some (.int .i64 t.right)
 c3:w.cell? ⟨b,3,none⟩=some (.int .i64 t.num)
 c4:w.cell? ⟨b,4,none⟩=some (.string (BS t.str))
 c5:w.cell? ⟨b,5,none⟩=some (.string (BS t.esc))
 fz:∀j,w.frozen? ⟨b,j,none⟩=false
theorem TmAt.same{t:Tm}(h:TmAt w b t)(i:b<w'.heap.size)(e:w'.heap[b]?=w.heap[b]?):TmAt w' b t:=by
 have c:∀j,w'.cell? ⟨b,j,none⟩=w.cell? ⟨b,j,none⟩:=λj=>aw (w:=w) (w':=w') (a:=⟨b,j,none⟩) e
 have k:∀j,w'.frozen? ⟨b,j,none⟩=w.frozen? ⟨b,j,none⟩:=λj=>cf (w:=w) (w':=w') (a:=⟨b,j,none⟩) e
 exact⟨i,(c 0).trans h.c0,(c 1).trans h.c1,(c 2).trans h.c2,(c 3).trans h.c3,(c 4).trans h.c4,(c 5).trans h.c5,λj=>(k j).trans (h.fz j)⟩
theorem TmAt.kept{t:Tm}(h:TmAt w b t)(c:Kept rb w w')(e:¬b=rb):TmAt w' b t:=
 h.same (bg h.lt c.size) (c.block b h.lt e)
theorem TmAt.alloc{t:Tm}(h:TmAt w b t)(o:Obj):TmAt (w.alloc o) b t:=
 h.same (by have:=h.lt;simp;omega) (((Below.refl w.heap.size w).alloc nt o).block b h.lt)
theorem TmAt.other{t:Tm}(h:TmAt w b t){p:Addr}(c:¬p.block=b)(u:Value):TmAt (w.setCell p u) b t:=
 h.same (by have:=h.lt;simp;omega) (bo w p u b mw)
theorem TmAt.new(w:World)(n:Nat)(ty:TypeId):TmAt (w.alloc (.cells #[.int .i64 n,.int .i64 0,.int .i64 0,.int .i64 0,.string ⟨#[]⟩,.string ⟨#[]⟩] ty)) w.heap.size (.bare n):=by
 refine⟨mx, ?_, ?_, ?_, ?_, ?_, ?_,λj=>?_⟩<;>simp[go_sem,Tm.bare]<;>rfl
theorem TmAt.left'{t:Tm}(h:TmAt w b t)(n:Nat):TmAt (w.setCell ⟨b,1,none⟩ (.int .i64 n)) b { t with left:=n }:=by
 obtain⟨l,c0,k,i,e,c4,c,fz⟩:=h;exact⟨my,by simp[go_sem,c0],by simp[go_sem,k],by simp[go_sem,i],by simp[go_sem,e],by simp[go_sem,c4],by simp[go_sem,c],λj=>by simp[go_sem,fz]⟩
theorem TmAt.right'{t:Tm}(h:TmAt w b t)(n:Nat):TmAt (w.setCell ⟨b,2,none⟩ (.int .i64 n)) b { t with right:=n }:=by
 obtain⟨l,c0,k,i,e,c4,c,fz⟩:=h;exact⟨my,by simp[go_sem,c0],by simp[go_sem,k],by simp[go_sem,i],by simp[go_sem,e],by simp[go_sem,c4],by simp[go_sem,c],λj=>by simp[go_sem,fz]⟩
theorem TmAt.esc'{t:Tm}(h:TmAt w b t)(l:mv):TmAt (w.setCell ⟨b,5,none⟩ (.string (BS l))) b { t with esc:=l }:=by
 obtain⟨m,c0,k,i,e,c4,c,fz⟩:=h;exact⟨my,by simp[go_sem,c0],by simp[go_sem,k],by simp[go_sem,i],by simp[go_sem,e],by simp[go_sem,c4],by simp[go_sem,c],λj=>by simp[go_sem,fz]⟩
def zG(rb:Nat)(w:World)(r:Tm×Ps)(e:Ending)(w':World):Prop:=e=.returned (tmV r.1)/\PsAt w' rb r.2/\Kept rb w w'
theorem TmAt.full{c:Tm}(h:TmAt w b c)(t:Tm)(n:v0=.int .i64 t.op)(m:v1=.int .i64 t.left)(l:v2=.int .i64 t.right)(k:v3=.int .i64 t.num)(i:v4=.string (BS t.str))(e:v5=.string (BS t.esc)):
  TmAt ((((((w.setCell ⟨b,0,none⟩ v0).setCell ⟨b,1,none⟩ v1).setCell ⟨b,2,none⟩ v2).setCell ⟨b,3,none⟩ v3).setCell ⟨b,4,none⟩ v4).setCell ⟨b,5,none⟩ v5) b t:=by
 subst n m l k i e;obtain⟨y,c0,x,u,s,c4,q,fz⟩:=h;exact⟨my,by simp[go_sem,c0],by simp[go_sem,x],by simp[go_sem,u],by simp[go_sem,s],by simp[go_sem,c4],by simp[go_sem,q],λj=>by simp[go_sem,fz]⟩
theorem qdj{t:Tm}(h:TmAt W A t)(a:Array Value)(e:a.getD 4 undef=.pointer (some ⟨A,0,none⟩)):(results Tryz.f73 a).run prog W=.ok (tmV t) W:=by
 obtain⟨m,c0,l,k,j,c4,i,fz⟩:=h;have c:a[4]?.getD undef=.pointer (some ⟨A,0,none⟩):=by simpa using e
 simp[go_sem,c,c0,l,k,j,c4,i,tmV]
theorem pB{h:Tm}{r:Tm×Ps}(l:TmAt W A h)(j:PsAt W rb r.2)(k:Kept rb w W)(e:rb<A)(c:w.heap.size<=A)(i:a.tmps.getD 4 undef=.pointer (some ⟨A,0,none⟩))(hd:a.defers=[])
  (t:v0=.int .i64 r.1.op) (s:v1=.int .i64 r.1.left) (q:v2=.int .i64 r.1.right) (p:v3=.int .i64 r.1.num) (n:v4=.string (BS r.1.str)) (m:v5=.string (BS r.1.esc)) :
  bodyPost prog Tryz.f73 (zG rb w r) Exit.ret a ((((((W.setCell ⟨A,0,none⟩ v0).setCell ⟨A,1,none⟩ v1).setCell ⟨A,2,none⟩ v2).setCell ⟨A,3,none⟩ v3).setCell ⟨A,4,none⟩ v4).setCell ⟨A,5,none⟩ v5):=
 ak (qdj (l.full r.1 t s q p n m) _ i) hd ⟨rfl,((((((j.later e _).later e _).later e _).later e _).later e _).later e _),((((((k.later c _).later c _).later c _).later c _).later c _).later c _)⟩
theorem qrv{h:Tm}{r:Tm×Ps}{o:Obj}(l:TmAt W A h)(j:PsAt W rb r.2)(k:Kept rb w W)(e:rb<A)(c:w.heap.size<=A)(i:a.tmps.getD 4 undef=.pointer (some ⟨A,0,none⟩))(hd:a.defers=[])
  (t:v0=.int .i64 r.1.op) (s:v1=.int .i64 r.1.left) (q:v2=.int .i64 r.1.right) (p:v3=.int .i64 r.1.num) (n:v4=.string (BS r.1.str)) (m:v5=.string (BS r.1.esc)) :
  bodyPost prog Tryz.f73 (zG rb w r) Exit.ret a (((((((W.setCell ⟨A,0,none⟩ v0).setCell ⟨A,1,none⟩ v1).setCell ⟨A,2,none⟩ v2).setCell ⟨A,3,none⟩ v3).setCell ⟨A,4,none⟩ v4).setCell ⟨A,5,none⟩ v5).alloc o):=
 ak (qdj ((l.full r.1 t s q p n m).alloc o) _ i) hd ⟨rfl,((((((j.later e _).later e _).later e _).later e _).later e _).later e _).alloc o,((((((k.later c _).later c _).later c _).later c _).later c _).later c _).alloc o⟩
set_option linter.unusedSimpArgs false
set_option linter.unusedVariables false
theorem qvs(rb:Nat)(s:Ps)(j:Nat)(w:World)(op:Nat)(u:op=3\/op=4)(h:PsAt w rb s)(N:j<=255)(n:s.next.1.toNat=op):
  nz 73 #[.pointer (some ⟨rb,0,none⟩),.int .i64 j] w (zG rb w (s.next.2.body j op)):=by
 have I:=h.lt;have n0:¬w.heap.size=rb:=mw;have G:Hid (∀o,PsAt (w.alloc o) rb s):=qd λo=>h.alloc o
 have T:Hid (∀w,PsAt w rb s->_):=qd λw h=>yr rb s w h
 rw[n]at T;obtain⟨i,t⟩:∃i,s.next.2=i:=⟨_,rfl⟩;rw[t]at T ⊢;have q:i.body j op=(⟨op,0,0,0,[],[]⟩,i):=by rcases u with rfl|rfl<;>simp[Ps.body,jk,Tm.bare]
 have H:Hid (∀(c:World) ty,TmAt (c.alloc (.cells #[.int .i64 (op:Nat),.int .i64 0,.int .i64 0,.int .i64 0,.string ⟨#[]⟩,.string ⟨#[]⟩] ty)) c.heap.size (.bare op)):=qd λc ty=>TmAt.new c op ty
 rw[q];clear h q n t;rcases u with rfl|rfl
 all_goals
  go_enter func73,ntmps73
  go_wp2_with(first|(go_at_call 118;refine(T _ (G _)).mono ?_;rintro e c⟨rfl,k,l⟩;have k:=qd k;have m:=qd ((TmAt.new w 0 125).kept l n0);obtain⟨x,E,D,C,B,z,y,K⟩:=q9 m;simp only[Tm.bare]at E D C B z y;have F:Hid (Kept rb w c):=qd (((Kept.refl rb w).alloc _).trans l);have M:w.heap.size<c.heap.size:=x;have J:¬c.heap.size=rb:=mw;have nab:¬w.heap.size=c.heap.size:=mw;have nba:¬c.heap.size=w.heap.size:=mw;have O:=qd (H c);clear l))
  exact qrv m k F I nt rfl rfl rfl rfl rfl rfl rfl rfl
theorem vbs(rb:Nat)(s:Ps)(B:Nat)(w:World)(h:PsAt w rb s)(K0:B<=255)(ho:s.next.1.toNat=22):
  nz 73 #[.pointer (some ⟨rb,0,none⟩),.int .i64 B] w (zG rb w (s.next.2.body B 22)):=by
 have A0:=h.lt;have n0:¬w.heap.size=rb:=mw;have HP:Hid (∀o,PsAt (w.alloc o) rb s):=qd λo=>h.alloc o
 have T:Hid (∀w,PsAt w rb s->_):=qd λw h=>yr rb s w h
 rw[ho]at T;obtain⟨z,J2⟩:∃z,s.next.2=z:=⟨_,rfl⟩;rw[J2]at T ⊢;obtain⟨E,O⟩:∃p,z.upTo ((B:Int) - 1)=p:=⟨_,rfl⟩;have T2:Hid (∀w,PsAt w rb z->_):=qd λw h=>x9 rb z ((B:Int) - 1) w h
 rw[O]at T2;obtain⟨D,M⟩:∃p,E.2.text 1=p:=⟨_,rfl⟩;have T3:Hid (∀w,PsAt w rb E.2->_):=qd λw h=>qc5 rb E.2 1 w h
 rw[M]at T3;obtain⟨X,N⟩:∃p,D.2.text 200=p:=⟨_,rfl⟩;have T4:Hid (∀w,PsAt w rb D.2->_):=qd λw h=>qc5 rb D.2 200 w h
 rw[N]at T4;have hb:z.body B 22=(⟨22,E.1,0,0,X.1,D.1⟩,X.2):=by simp[Ps.body,jk,Tm.bare,O,M,N]
 rw[hb];clear h hb ho J2 O M N;go_enter func73,ntmps73
 go_wp2_with(first|(go_at_call 121;refine(T4 _ (Q.later my _)).mono ?_;rintro e w4⟨rfl,P,H⟩;have P:=qd P;clear y m l k j i c C F x b1 b2 u t q G;have ZR:=qd ((JZ.other (by simpa using nba) _).kept H n0);have t8:=qd ((E8.esc' _).kept H K);obtain⟨y,m,l,k,j,i,c,C⟩:=q9 ZR;simp only[Tm.bare]at m l k j i c;obtain⟨F,x,b1,b2,u,t,q,G⟩:=q9 t8;simp only[Tm.bare]at x b1 b2 u t q;have K4:Hid (Kept rb w w4):=qd ((K3.later my _).trans H);clear H)|(go_at_call 121;refine(T3 _ (R.later my _)).mono ?_;rintro e w3⟨rfl,Q,I⟩;have Q:=qd Q;clear y m l k j i c C F x b1 b2 u t q G;have JZ:=qd ((Y.other (by simpa using nba) _).kept I n0);have E8:=qd ((F9.left' _).kept I K);obtain⟨y,m,l,k,j,i,c,C⟩:=q9 JZ;simp only[Tm.bare]at m l k j i c;obtain⟨F,x,b1,b2,u,t,q,G⟩:=q9 E8;simp only[Tm.bare]at x b1 b2 u t q;have K3:Hid (Kept rb w w3):=qd ((K2.later my _).trans I);clear I)|(go_at_call 72;refine(T2 _ (S.alloc _)).mono ?_;rintro e w2⟨rfl,R,J⟩;have R:=qd R;clear y m l k j i c C;have Y:=qd ((Z.alloc _).kept J n0);have F9:=qd ((C9 _).kept J K);obtain⟨y,m,l,k,j,i,c,C⟩:=q9 Y;simp only[Tm.bare]at m l k j i c;obtain⟨F,x,b1,b2,u,t,q,G⟩:=q9 F9;simp only[Tm.bare]at x b1 b2 u t q;have K2:Hid (Kept rb w w2):=qd ((K1.alloc _).trans J);clear J)|(go_at_call 118;refine(T _ (HP _)).mono ?_;rintro e n⟨rfl,S,U⟩;have S:=qd S;have Z:=qd ((TmAt.new w 0 125).kept U n0);obtain⟨y,m,l,k,j,i,c,C⟩:=q9 Z;simp only[Tm.bare]at m l k j i c;have K1:Hid (Kept rb w n):=qd (((Kept.refl rb w).alloc _).trans U);have KD:w.heap.size<n.heap.size:=y;have K:¬n.heap.size=rb:=mw;have nab:¬w.heap.size=n.heap.size:=mw;have nba:¬n.heap.size=w.heap.size:=mw;have C9:Hid (∀ty,TmAt (n.alloc (.cells #[.int .i64 (22:Nat),.int .i64 0,.int .i64 0,.int .i64 0,.string ⟨#[]⟩,.string ⟨#[]⟩] ty)) n.heap.size (.bare 22)):=qd (λty=>TmAt.new n 22 ty);clear U))
 exact pB (ZR.other (by simpa using nba) _) (P.later my _) (K4.later my _) A0 nt rfl rfl rfl rfl rfl rfl rfl rfl
theorem yM(rb:Nat)(s:Ps)(i:Nat)(w:World)(op:Nat)(F1:op=6\/op=7\/op=8\/op=10\/op=11\/op=16\/op=17\/op=18\/op=19)(h:PsAt w rb s)(K0:i<=255)(R:s.next.1.toNat=op):
  nz 73 #[.pointer (some ⟨rb,0,none⟩),.int .i64 i] w (zG rb w (s.next.2.body i op)):=by
 have A0:=h.lt;have n0:¬w.heap.size=rb:=mw;have HP:Hid (∀o,PsAt (w.alloc o) rb s):=qd λo=>h.alloc o
 have T:Hid (∀w,PsAt w rb s->_):=qd λw h=>yr rb s w h
 rw[R]at T;obtain⟨t,J2⟩:∃t,s.next.2=t:=⟨_,rfl⟩;rw[J2]at T ⊢;obtain⟨x,H⟩:∃p,t.upTo ((i:Int) - 1)=p:=⟨_,rfl⟩;have Y:Hid (∀w,PsAt w rb t->_):=qd λw h=>x9 rb t ((i:Int) - 1) w h
 rw[H]at Y;obtain⟨N,G⟩:∃p,x.2.upTo ((i:Int) - 1)=p:=⟨_,rfl⟩;have T3:Hid (∀w,PsAt w rb x.2->_):=qd λw h=>x9 rb x.2 ((i:Int) - 1) w h
 rw[G]at T3;have S:t.body i op=(⟨op,N.1,x.1,0,[],[]⟩,N.2):=by rcases F1 with rfl|rfl|rfl|rfl|rfl|rfl|rfl|rfl|rfl<;>simp[Ps.body,jk,Tm.bare,H,G]
 have HN:Hid (∀(c:World) ty,TmAt (c.alloc (.cells #[.int .i64 (op:Nat),.int .i64 0,.int .i64 0,.int .i64 0,.string ⟨#[]⟩,.string ⟨#[]⟩] ty)) c.heap.size (.bare op)):=qd λc ty=>TmAt.new c op ty
 rw[S];clear h S R J2 H G;rcases F1 with rfl|rfl|rfl|rfl|rfl|rfl|rfl|rfl|rfl
 all_goals
  go_enter func73,ntmps73
  go_wp2_with(first|(go_at_call 72;refine(T3 _ (J.later my _)).mono ?_;rintro e w3⟨rfl,I,E⟩;have I:=qd I;clear u q n m l k j D U C b1 b2 B z y X;have Z:=qd ((P.other (by simpa using nba) _).kept E n0);have E8:=qd ((F9.right' _).kept E O);obtain⟨u,q,n,m,l,k,j,D⟩:=q9 Z;simp only[Tm.bare]at q n m l k j;obtain⟨U,C,b1,b2,B,z,y,X⟩:=q9 E8;simp only[Tm.bare]at C b1 b2 B z y;have K3:Hid (Kept rb w w3):=qd ((K2.later my _).trans E);clear E)|(go_at_call 72;refine(Y _ (K.alloc _)).mono ?_;rintro e w2⟨rfl,J,F⟩;have J:=qd J;clear u q n m l k j D;have P:=qd ((Q.alloc _).kept F n0);have F9:=qd ((C9 _).kept F O);obtain⟨u,q,n,m,l,k,j,D⟩:=q9 P;simp only[Tm.bare]at q n m l k j;obtain⟨U,C,b1,b2,B,z,y,X⟩:=q9 F9;simp only[Tm.bare]at C b1 b2 B z y;have K2:Hid (Kept rb w w2):=qd ((K1.alloc _).trans F);clear F)|(go_at_call 118;refine(T _ (HP _)).mono ?_;rintro e c⟨rfl,K,M⟩;have K:=qd K;have Q:=qd ((TmAt.new w 0 125).kept M n0);obtain⟨u,q,n,m,l,k,j,D⟩:=q9 Q;simp only[Tm.bare]at q n m l k j;have K1:Hid (Kept rb w c):=qd (((Kept.refl rb w).alloc _).trans M);have KD:w.heap.size<c.heap.size:=u;have O:¬c.heap.size=rb:=mw;have nab:¬w.heap.size=c.heap.size:=mw;have nba:¬c.heap.size=w.heap.size:=mw;have C9:=qd (HN c);clear M))
  exact pB (Z.other (by simpa using nba) _) (I.later my _) (K3.later my _) A0 nt rfl rfl rfl rfl rfl rfl rfl rfl
theorem qc4(rb:Nat)(s:Ps)(j:Nat)(w:World)(op:Nat)(R:op=5\/op=23\/op=0\/op=2\/op=1)(h:PsAt w rb s)(K0:j<=255)(K:s.next.1.toNat=op):
  nz 73 #[.pointer (some ⟨rb,0,none⟩),.int .i64 j] w (zG rb w (s.next.2.body j op)):=by
 have A0:=h.lt;have n0:¬w.heap.size=rb:=mw;have HP:Hid (∀o,PsAt (w.alloc o) rb s):=qd λo=>h.alloc o
 have T:Hid (∀w,PsAt w rb s->_):=qd λw h=>yr rb s w h
 rw[K]at T;obtain⟨c,Q⟩:∃c,s.next.2=c:=⟨_,rfl⟩;rw[Q]at T ⊢;obtain⟨H,C⟩:∃p,c.upTo ((j:Int) - 1)=p:=⟨_,rfl⟩;have P:Hid (∀w,PsAt w rb c->_):=qd λw h=>x9 rb c ((j:Int) - 1) w h
 rw[C]at P;obtain⟨G,y⟩:∃p,c.text 200=p:=⟨_,rfl⟩;have T3:Hid (∀w,PsAt w rb c->_):=qd λw h=>qc5 rb c 200 w h
 rw[y]at T3;obtain⟨F,z⟩:∃p,c.number=p:=⟨_,rfl⟩;have O:Hid (∀w,PsAt w rb c->nz 120 #[.pointer (some ⟨rb,0,none⟩)] w λe w'=>e=.returned (.int .i64 (c.number).1)/\PsAt w' rb (c.number).2/\Kept rb w w'):=qd λw h=>qkn rb c w h
 rw[z]at O;have M:c.body j op=if op=1 then(⟨1,0,0,F.1,[],[]⟩,F.2) else if op=0\/op=2 then(⟨op,0,0,0,G.1,[]⟩,G.2) else(⟨op,H.1,0,0,[],[]⟩,H.2):=by rcases R with rfl|rfl|rfl|rfl|rfl<;>simp[Ps.body,jk,Tm.bare,C,y,z]
 have HN:Hid (∀(i:World) ty,TmAt (i.alloc (.cells #[.int .i64 (op:Nat),.int .i64 0,.int .i64 0,.int .i64 0,.string ⟨#[]⟩,.string ⟨#[]⟩] ty)) i.heap.size (.bare op)):=qd λi ty=>TmAt.new i op ty
 rw[M];clear h M K Q C y z;rcases R with rfl|rfl|rfl|rfl|rfl
 all_goals
  simp(decide:=true) only[if_true,if_false];go_enter func73,ntmps73
  go_wp2_with(first|((first|(go_at_call 72;refine(P _ (k.alloc _)).mono ?_)|(go_at_call 121;refine(T3 _ (k.alloc _)).mono ?_)|(go_at_call 120;refine(O _ (k.alloc _)).mono ?_));rintro e S⟨rfl,D,x⟩;have D:=qd D;clear B u t q n m l N;have I:=qd ((J.alloc _).kept x n0);have F9:=qd ((C9 _).kept x U);obtain⟨B,u,t,q,n,m,l,N⟩:=q9 I;simp only[Tm.bare]at u t q n m l;obtain⟨bl,b0,b1,b2,Z,Y,X,bf⟩:=q9 F9;simp only[Tm.bare]at b0 b1 b2 Z Y X;have K2:Hid (Kept rb w S):=qd ((K1.alloc _).trans x);clear x)|(go_at_call 118;refine(T _ (HP _)).mono ?_;rintro e i⟨rfl,k,E⟩;have k:=qd k;have J:=qd ((TmAt.new w 0 125).kept E n0);obtain⟨B,u,t,q,n,m,l,N⟩:=q9 J;simp only[Tm.bare]at u t q n m l;have K1:Hid (Kept rb w i):=qd (((Kept.refl rb w).alloc _).trans E);have KD:w.heap.size<i.heap.size:=B;have U:¬i.heap.size=rb:=mw;have nab:¬w.heap.size=i.heap.size:=mw;have nba:¬i.heap.size=w.heap.size:=mw;have C9:=qd (HN i);clear E))
  exact pB (I.other (by simpa using nba) _) (D.later my _) (K2.later my _) A0 nt rfl rfl rfl rfl rfl rfl rfl rfl
theorem vhd(rb:Nat)(s:Ps)(j:Nat)(w:World)(h:PsAt w rb s)(K0:j<=255)(op:Nat)(F1:op<256)(Z:¬op=3)(Y:¬op=4)(o1:¬op=1)(y:¬op=22)(o0:¬op=0)(o2:¬op=2)(U:¬op=6)(S:¬op=7)(R:¬op=8)(VK:¬op=10)(VJ:¬op=11)(D:¬op=16)(C:¬op=17)(B:¬op=18)(z:¬op=19)(X:¬op=5)(x:¬op=23)(K:s.next.1.toNat=op):
  nz 73 #[.pointer (some ⟨rb,0,none⟩),.int .i64 j] w (zG rb w (s.next.2.body j op)):=by
 have A0:=h.lt;have n0:¬w.heap.size=rb:=mw;have HP:Hid (∀o,PsAt (w.alloc o) rb s):=qd λo=>h.alloc o
 have T:Hid (∀w,PsAt w rb s->_):=qd λw h=>yr rb s w h
 rw[K]at T;obtain⟨i,P⟩:∃i,s.next.2=i:=⟨_,rfl⟩;rw[P]at T ⊢;have T2:Hid (∀w,PsAt w rb i->_):=qd λw h=>qc2 rb i w h
 have O:jk op=false:=by simp[jk, *]
 have M:i.body j op=(⟨op,0,0,0,[],[]⟩,failS):=by simp[Ps.body,O, *,Tm.bare]
 rw[M];have M7:(0:Int)<=(op:Int):=mw;have dV:(op:Int)<256:=mw;have e3:((op:Int)==3)=false:=ae.2 mw;have e4:((op:Int)==4)=false:=ae.2 mw;have e1:((op:Int)==1)=false:=ae.2 mw;have DR:((op:Int)==22)=false:=ae.2 mw;have e0:((op:Int)==0)=false:=ae.2 mw;have e2:((op:Int)==2)=false:=ae.2 mw;have e6:((op:Int)==6)=false:=ae.2 mw;have e7:((op:Int)==7)=false:=ae.2 mw;have e8:((op:Int)==8)=false:=ae.2 mw;have fQ:((op:Int)==10)=false:=ae.2 mw;have lO:((op:Int)==11)=false:=ae.2 mw;have DU:((op:Int)==16)=false:=ae.2 mw;have DS:((op:Int)==17)=false:=ae.2 mw;have IQ:((op:Int)==18)=false:=ae.2 mw;have IP:((op:Int)==19)=false:=ae.2 mw;have e5:((op:Int)==5)=false:=ae.2 mw;have DQ:((op:Int)==23)=false:=ae.2 mw;clear Z Y o1 y o0 o2 U S R VK VJ D C B z X x O F1;clear h M K P;go_enter func73,ntmps73
 go_wp2_with(first|(go_at_call 119;refine(T2 _ (G.alloc _)).mono ?_;rintro e Q⟨rfl,F,u⟩;have F:=qd F;clear E t q n m l k N;have I:=qd ((J.alloc _).kept u n0);have F9:=qd ((C9 _).kept u nb);obtain⟨E,t,q,n,m,l,k,N⟩:=q9 I;simp only[Tm.bare]at t q n m l k;obtain⟨bl,b0,b1,b2,b3,b4,b5,bf⟩:=q9 F9;simp only[Tm.bare]at b0 b1 b2 b3 b4 b5;have K2:Hid (Kept rb w Q):=qd ((K1.alloc _).trans u);clear u)|(go_at_call 118;refine(T _ (HP _)).mono ?_;rintro e c⟨rfl,G,H⟩;have G:=qd G;have J:=qd ((TmAt.new w 0 125).kept H n0);obtain⟨E,t,q,n,m,l,k,N⟩:=q9 J;simp only[Tm.bare]at t q n m l k;have K1:Hid (Kept rb w c):=qd (((Kept.refl rb w).alloc _).trans H);have KD:w.heap.size<c.heap.size:=E;have nb:¬c.heap.size=rb:=mw;have nab:¬w.heap.size=c.heap.size:=mw;have nba:¬c.heap.size=w.heap.size:=mw;have C9:Hid (∀ty,TmAt (c.alloc (.cells #[.int .i64 (op:Nat),.int .i64 0,.int .i64 0,.int .i64 0,.string ⟨#[]⟩,.string ⟨#[]⟩] ty)) c.heap.size (.bare op)):=qd (λty=>TmAt.new c op ty);clear H))
 exact pB I F K2 A0 nt rfl rfl rfl rfl rfl rfl rfl rfl
theorem qvr(rb:Nat)(s:Ps)(c:Nat)(w:World)(h:PsAt w rb s)(i:c<=255):
  nz 73 #[.pointer (some ⟨rb,0,none⟩),.int .i64 c] w (zG rb w (s.term c)):=by
 rw[Ps.term];obtain⟨n,e⟩:∃n,s.next.1.toNat=n:=⟨_,rfl⟩;have j:n<256:=by have:=s.next.1.toNat_lt;omega
 rw[e]
 by_cases h3:n=3
 ·subst h3;exact qvs rb s c w _ nh h i e
 by_cases h4:n=4
 ·subst h4;exact qvs rb s c w _ nh h i e
 by_cases h1:n=1
 ·subst h1;exact qc4 rb s c w _ nh h i e
 by_cases T5:n=22
 ·subst T5;exact vbs rb s c w h i e
 by_cases h0:n=0
 ·subst h0;exact qc4 rb s c w _ nh h i e
 by_cases h2:n=2
 ·subst h2;exact qc4 rb s c w _ nh h i e
 by_cases h6:n=6
 ·subst h6;exact yM rb s c w _ nh h i e
 by_cases h7:n=7
 ·subst h7;exact yM rb s c w _ nh h i e
 by_cases h8:n=8
 ·subst h8;exact yM rb s c w _ nh h i e
 by_cases L1:n=10
 ·subst L1;exact yM rb s c w _ nh h i e
 by_cases M8:n=11
 ·subst M8;exact yM rb s c w _ nh h i e
 by_cases h16:n=16
 ·subst h16;exact yM rb s c w _ nh h i e
 by_cases h17:n=17
 ·subst h17;exact yM rb s c w _ nh h i e
 by_cases h18:n=18
 ·subst h18;exact yM rb s c w _ nh h i e
 by_cases h19:n=19
 ·subst h19;exact yM rb s c w _ nh h i e
 by_cases h5:n=5
 ·subst h5;exact qc4 rb s c w _ nh h i e
 by_cases J8:n=23
 ·subst J8;exact qc4 rb s c w _ nh h i e
 exact vhd rb s c w h i n j h3 h4 h1 T5 h0 h2 h6 h7 h8 L1 M8 h16 h17 h18 h19 h5 J8 e
def qmm(s:Ps)(pl:Nat):Prop:=∀(rb:Nat) (w:World),PsAt w rb s->Calls prog 73 #[.pointer (some ⟨rb,0,none⟩),.int .i64 pl] w (zG rb w (s.term pl))
theorem qie(s:Ps)(c:Nat)(e:c<=255):qmm s c:=λrb w h=>qvr rb s c w h e
def vE(s:Ps):Nat->List Tm×Ps
 | 0=>([],s)
 | k+1=>((vE s k).1++[((vE s k).2.term k).1],((vE s k).2.term k).2)
def vS(m:Int)(s:Ps):Nat->List Nat×Ps
 | 0=>([],s)
 | k+1=>((vS m s k).1++[((vS m s k).2.upTo m).1],((vS m s k).2.upTo m).2)
theorem yR(s:Ps)(k:Nat):(vE s k).1.length=k:=by
 induction k with
 | zero=>rfl
 | succ k ih=>rw[vE,bu,ih];rfl
theorem pi(m:Int)(s:Ps)(k:Nat):(vS m s k).1.length=k:=by
 induction k with
 | zero=>rfl
 | succ k ih=>rw[vS,bu,ih];rfl
def qak(code:List UInt8):Nat×Ps:=Ps.upTo ⟨code,false⟩ 80
def qal(code:List UInt8):Nat×Ps:=(qak code).2.upTo 8
def qr3(code:List UInt8):List Tm×Ps:=vE (qal code).2 (qak code).1
def qhr(code:List UInt8):List Nat×Ps:=vS (((qak code).1:Int) - 1) (qr3 code).2 (qal code).1
def yh(code:List UInt8):List Tm×List Nat×Bool:=((qr3 code).1,(qhr code).1,!(qhr code).2.bad&&((qhr code).2.rest.length==0))
def zK(ts:List Tm):List Value:=ts.flatMap xH
def jX(l:List Nat):List Value:=l.map λn:Nat=>.int .i64 (n:Int)
theorem qbk:(prog.info? 125).map (λi=>(i.zero,i.size,i.bytes))=some (some (.agg #[.int .i64 0,.int .i64 0,.int .i64 0,.int .i64 0,.string ⟨#[]⟩,.string ⟨#[]⟩]),6,64):=nl
theorem kq:(prog.info? 3).map (λi=>(i.zero,i.size,i.bytes))=some (some (.int .i64 0),1,8):=nl
def TsAt(w:World)(base:Nat)(v:Value)(ts:List Tm):Prop:=w.ownsRow base 125 6 v ts.length (zK ts)
def IsAt(w:World)(base:Nat)(v:Value)(l:List Nat):Prop:=w.ownsRow base 3 1 v l.length (jX l)
theorem TsAt.nil(w:World)(base:Nat):TsAt w base (.slice none 0 0) []:=⟨rfl,.inl ⟨rfl,rfl⟩⟩
theorem IsAt.nil(w:World)(base:Nat):IsAt w base (.slice none 0 0) []:=⟨rfl,.inl ⟨rfl,rfl⟩⟩
theorem vm{base e size n:Nat}{v:Value}{xs:List Value}(h:w.ownsRow base e size v n xs)(i:∀g,v.ownBlock=some g->w'.heap[g]?=w.heap[g]?):w'.ownsRow base e size v n xs:=by
 refine⟨h.1, ?_⟩;rcases h.2 with c|⟨g,cap,cur,rfl,j,k,rest⟩
 ·exact .inl c
 ·exact .inr ⟨g,cap,cur,rfl,j,(i g rfl).trans k,rest⟩
theorem qig{ts:List Tm}{i:Nat}{t:Tm}(h:ts[i]?=some t){j:Nat}{u:Value}(c:(xH t)[j]?=some u):(zK ts)[i * 6+j]?=some u:=by
 have e:j<6:=by have:=(au.1 c).1;simpa [xH]using this
 induction ts generalizing i with
 | nil=>simp at h
 | cons t' ts ih=>
  rw[zK,dw,←zK]
  cases i with
  | zero=>
   simp at h;subst h;rw[bw (by show _<6;omega),Nat.zero_mul,ee];exact c
  | succ i=>
   rw[cj (by show 6<=_;omega),show(i+1) * 6+j - (xH t').length=i * 6+j by show _ - 6=_;omega];exact ih (by simpa using h)
theorem gW(h:Lx r L):Lx (41::r) (qh 27::L):=by
 have c:qJ (41::r) 0=qh 27/\qZ (41::r) 0=1:=by cases r<;>exact⟨rfl,rfl⟩
 exact .cons c.1 (show(27:Int)≠0 by decide) (by rw[c.2];exact h)
theorem qen(h:Lx r L):Lx (40::r) (qh 26::L):=by
 have c:qJ (40::r) 0=qh 26/\qZ (40::r) 0=1:=by cases r<;>exact⟨rfl,rfl⟩
 exact .cons c.1 (show(26:Int)≠0 by decide) (by rw[c.2];exact h)
theorem vjh(h:Lx r L):Lx (65::78::68::32::r) (qh 5::L):=.cons (k:=qh 5) rfl (show(5:Int)≠0 by decide) (jY h)
theorem vm3(h:Lx r L):Lx (79::82::32::r) (qh 6::L):=.cons (k:=qh 6) rfl (show(6:Int)≠0 by decide) (jY h)
def En(r:TRes):Prop:=∀en,r=.err en->en=2\/en=3
def Nz(o:Nat)(f:TS->TRes):Prop:=∀ts,ts.op=o->En (f ts)/\∀t ts',f ts=.ok t ts'->ts'.op=o
theorem En.ok{t:Ast}{ts:TS}:En (.ok t ts):=λ_ h=>by cases h
theorem En.two:En (.err 2):=λ_ h=>by injection h with h;exact .inl h.symm
theorem En.three:En (.err 3):=λ_ h=>by injection h with h;exact .inr h.symm
theorem Nz.join(h:Nz o f)(ts:TS)(l:Ast)(i:ts.op=o):En (qam f ts l)/\∀t ts',qam f ts l=.ok t ts'->ts'.op=o:=by
 obtain⟨c,j⟩:=h ts.next i;unfold qam
 cases hf:f ts.next with
 | err en=>rw[hf]at c;exact⟨c,λ_ _ h=>by cases h⟩
 | ok t ts'=>exact⟨En.ok,λ_ _ h=>by injection h with _ e;rw[←e];exact j _ _ hf⟩
theorem Nz.loop(h:Nz o f)(ks:List Int):∀n l ts,ts.op=o->En (pA f ks n l ts)/\∀t ts',pA f ks n l ts=.ok t ts'->ts'.op=o:=by
 intro n
 induction n with
 | zero=>intro l ts c;rw[pA];exact⟨En.ok,λ_ _ h=>by injection h with _ e;rw[←e];exact c⟩
 | succ n ih=>
  intro l ts c;rw[pA]
  split
  ·obtain⟨i,j⟩:=h.join ts l c
   cases hf:qam f ts l with
   | err en=>rw[hf]at i;exact⟨i,λ_ _ h=>by cases h⟩
   | ok t ts'=>exact ih t ts' (j _ _ hf)
  ·exact⟨En.ok,λ_ _ h=>by injection h with _ e;rw[←e];exact c⟩
theorem Nz.row(h:Nz o f)(ks:List Int):Nz o (qp1 f ks):=by
 intro ts e;obtain⟨c,i⟩:=h ts e;unfold qp1
 cases hf:f ts with
 | err en=>rw[hf]at c;exact⟨c,λ_ _ h=>by cases h⟩
 | ok t ts'=>exact h.loop ks _ t ts' (i _ _ hf)
theorem Nz.sign(j:o<=12)(h:o<12->Nz (o+1) f)(n:Int)(ts:TS)(i:ts.op=o):En (qan f n ts)/\∀t ts',qan f n ts=.ok t ts'->ts'.op=o:=by
 unfold qan
 by_cases E7:ts.op=12
 ·rw[bh E7];exact⟨En.three,λ_ _ h=>by cases h⟩
 ·rw[aj E7]
  obtain⟨c,k⟩:=h mw (tIn ts) (by show ts.op+1=_;omega)
  cases hf:f (tIn ts) with
  | err en=>rw[hf]at c;exact⟨c,λ_ _ h=>by cases h⟩
  | ok t ts'=>exact⟨En.ok,λ_ _ h=>by injection h with _ e;rw[←e];exact i⟩
theorem Nz.group(j:o<=12)(h:o<12->Nz (o+1) f)(ts:TS)(i:ts.op=o):En (gi f ts)/\∀t ts',gi f ts=.ok t ts'->ts'.op=o:=by
 unfold gi
 by_cases E7:ts.op=12
 ·rw[bh E7];exact⟨En.three,λ_ _ h=>by cases h⟩
 ·rw[aj E7]
  obtain⟨c,k⟩:=h mw (tIn ts) (by show ts.op+1=_;omega)
  cases hf:f (tIn ts) with
  | err en=>rw[hf]at c;exact⟨c,λ_ _ h=>by cases h⟩
  | ok t ts'=>
   show En (if ts'.tk.kind=27 then _ else _)/\∀t2 O8,(if ts'.tk.kind=27 then _ else _)=TRes.ok t2 O8->_
   split
   ·exact⟨En.ok,λ_ _ h=>by injection h with _ e;rw[←e];exact i⟩
   ·exact⟨En.two,λ_ _ h=>by cases h⟩
theorem Nz.signed(i:o<=12)(j:o<12->Nz (o+1) f)(k:o<12->Nz (o+1) g):Nz o (xG f g):=by
 intro ts c;unfold xG
 split
 ·exact Nz.sign i j 14 ts c
 split
 ·exact Nz.sign i j 15 ts c
 split
 ·exact Nz.group i k ts c
 split
 ·exact⟨En.ok,λ_ _ h=>by injection h with _ e;rw[←e];exact c⟩
 split
 ·exact⟨En.ok,λ_ _ h=>by injection h with _ e;rw[←e];exact c⟩
 split
 ·exact⟨En.ok,λ_ _ h=>by injection h with _ e;rw[←e];exact c⟩
 split
 ·exact⟨En.ok,λ_ _ h=>by injection h with _ e;rw[←e];exact c⟩
 split
 ·exact⟨En.ok,λ_ _ h=>by injection h with _ e;rw[←e];exact c⟩
 ·exact⟨En.two,λ_ _ h=>by cases h⟩
theorem qve(l:Ast)(ts:TS)(c:ts.op=o):En (tIsNull l ts)/\∀t ts',tIsNull l ts=.ok t ts'->ts'.op=o:=by
 unfold tIsNull
 split
 ·split
  ·exact⟨En.ok,λ_ _ h=>by injection h with _ e;rw[←e];exact c⟩
  ·exact⟨En.two,λ_ _ h=>by cases h⟩
 ·split
  ·exact⟨En.ok,λ_ _ h=>by injection h with _ e;rw[←e];exact c⟩
  ·exact⟨En.two,λ_ _ h=>by cases h⟩
theorem qvd(l:Ast):∀n xs ts,ts.op=o->ts.toks.length<n->En (zC l n xs ts)/\∀t ts',zC l n xs ts=.ok t ts'->ts'.op=o:=by
 intro n
 induction n with
 | zero=>intro xs ts _ h;omega
 | succ n ih=>
  intro xs ts i j;rw[zC]
  by_cases L7:ts.tk.kind=28
  ·rw[bh L7]
   have c:=qO nh L7
   have k:ts.next.toks.length<ts.toks.length:=by
    cases ht:ts.toks with
    | nil=>exact absurd ht c
    | cons a r=>show(ts.toks.tail).length<_;rw[ht];simp
   split
   ·have:=qP ts.next
    exact ih _ ts.next.next i mw
   ·exact⟨En.two,λ_ _ h=>by cases h⟩
  ·rw[aj L7]
   split
   ·exact⟨En.ok,λ_ _ h=>by injection h with _ e;rw[←e];exact i⟩
   ·exact⟨En.two,λ_ _ h=>by cases h⟩
theorem vm7(l:Ast)(ts:TS)(c:ts.op=o):En (tInRes l ts)/\∀t ts',tInRes l ts=.ok t ts'->ts'.op=o:=by
 unfold tInRes
 split
 ·split
  ·have j:=qP ts
   have i:=qP ts.next;have e:=qP ts.next.next;exact qvd l _ _ ts.next.next.next c mw
  ·exact⟨En.two,λ_ _ h=>by cases h⟩
 ·exact⟨En.two,λ_ _ h=>by cases h⟩
theorem vh1(l:Ast)(ts:TS)(c:ts.op=o):En (tLike l ts)/\∀t ts',tLike l ts=.ok t ts'->ts'.op=o:=by
 unfold tLike
 split
 ·split
  ·split
   ·exact⟨En.ok,λ_ _ h=>by injection h with _ e;rw[←e];exact c⟩
   ·exact⟨En.two,λ_ _ h=>by cases h⟩
  ·exact⟨En.ok,λ_ _ h=>by injection h with _ e;rw[←e];exact c⟩
 ·exact⟨En.two,λ_ _ h=>by cases h⟩
theorem Nz.between(h:Nz o f)(l:Ast)(ts:TS)(j:ts.op=o):En (zJ f l ts)/\∀t ts',zJ f l ts=.ok t ts'->ts'.op=o:=by
 unfold zJ
 split
 ·obtain⟨i,m⟩:=h ts.next j
  cases hf:f ts.next with
  | err en=>rw[hf]at i;exact⟨i,λ_ _ h=>by cases h⟩
  | ok t V1=>
   show En (if V1.tk.kind=5 then _ else _)/\∀t2 O8,(if V1.tk.kind=5 then _ else _)=TRes.ok t2 O8->_
   split
   ·have n:V1.op=o:=m _ _ hf
    obtain⟨c,k⟩:=h V1.next n
    cases hg:f V1.next with
    | err en=>rw[hg]at c;exact⟨c,λ_ _ h=>by cases h⟩
    | ok t2 O8=>exact⟨En.ok,λ_ _ h=>by injection h with _ e;rw[←e];exact k _ _ hg⟩
   ·exact⟨En.two,λ_ _ h=>by cases h⟩
 ·exact⟨En.two,λ_ _ h=>by cases h⟩
theorem Nz.keyword(h:Nz o f)(bare:Bool)(l:Ast)(ts:TS)(c:ts.op=o):En (jK f bare l ts)/\∀t ts',jK f bare l ts=.ok t ts'->ts'.op=o:=by
 unfold jK
 split
 ·exact vm7 l ts c
 split
 ·exact vh1 l ts c
 ·exact h.between l ts c
theorem Nz.test(h:Nz o f):Nz o (qd2 f):=by
 intro ts k;obtain⟨j,n⟩:=h ts k;unfold qd2
 cases hf:f ts with
 | err en=>rw[hf]at j;exact⟨j,λ_ _ h=>by cases h⟩
 | ok l V1=>
  have c:=n _ _ hf;show En (qd1 f _ l V1)/\∀t2 O8,qd1 f _ l V1=TRes.ok t2 O8->_;unfold qd1
  split
  ·exact h.join V1 l c
  split
  ·split
   ·exact qve l V1 c
   ·exact⟨En.ok,λ_ _ h=>by injection h with _ e;rw[←e];exact c⟩
  split
  ·obtain⟨i,m⟩:=h.keyword (ts.tk.kind==2&&opA l==0) l V1.next c
   cases hg:jK f (ts.tk.kind==2&&opA l==0) l V1.next with
   | err en=>rw[hg]at i;exact⟨i,λ_ _ h=>by cases h⟩
   | ok t2 O8=>exact⟨En.ok,λ_ _ h=>by injection h with _ e;rw[←e];exact m _ _ hg⟩
  split
  ·exact h.keyword _ l V1 c
  ·exact⟨En.ok,λ_ _ h=>by injection h with _ e;rw[←e];exact c⟩
theorem Nz.denied(e:o<=12)(i:o<12->Nz (o+1) f)(h:Nz o g):Nz o (yi f g):=by
 intro ts c;unfold yi
 split
 ·exact Nz.sign e i 5 ts c
 ·exact h ts c
structure Nz3(o:Nat)(L:T3):Prop where
 S:Nz o L.S
 D:Nz o L.D
 E:Nz o L.E
theorem vjt(c:o<=12){L:T3}(h:o<12->Nz3 (o+1) L):Nz3 o (tUp L):=by
 have i:=Nz.signed c (λe=>(h e).S) (λe=>(h e).E);have k:=((i.row [24,25]).row [22,23]).test;have j:=Nz.denied c (λe=>(h e).D) k;exact⟨i,j,(j.row [5]).row [6]⟩
theorem vjs:∀d o,o+d=12->Nz3 o (vke d):=by
 intro d
 induction d with
 | zero=>intro o h;exact vjt mw (λe=>absurd e mw)
 | succ d ih=>intro o h;exact vjt mw (λe=>ih (o+1) mw)
theorem vw{s:mu}{i n:Int}(h:vj s=.err i n):i=1\/i=2\/i=3\/i=4:=by
 unfold vj at h
 by_cases hs:s.size<=200
 ·rw[bh hs]at h
  obtain⟨L,t⟩:=qeo _ s.data.toList nt;have x:Str s (qg s st0) L:=qcn t st0 (bj _) (db);have y:=qC s st0 (bj _);have p:=(qm9 s 12).E (qg s st0) ⟨L,0⟩ y x rfl;rcases p.cases with⟨k,st,ts,j,l,C,B,z⟩|⟨u,m,j,l⟩
  ·rw[j]at h
   change qju k st=_ at h
   unfold qju at h
   by_cases hk:st.tk.kind=0
   ·rw[bh hk]at h
    cases hc:qs9 (qv k) with
    | some q=>rw[hc]at h;injection h with c _;exact .inr (.inr (.inr c.symm))
    | none=>rw[hc]at h;cases h
   ·rw[aj hk]at h;injection h with c _;exact .inr (.inl c.symm)
  ·rw[j]at h
   injection h with c _;subst c;rcases((vjs 12 0 rfl).E ⟨L,0⟩ rfl).1 _ l with e|e
   ·exact .inr (.inl e)
   ·exact .inr (.inr (.inl e))
 ·rw[aj hs]at h
  injection h with c _;exact .inl c.symm
end Go.Proofs.YtfkcaldjphakpaaGreatDoor
