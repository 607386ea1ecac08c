/- denied -/
import Derived.Test.YtdmmmgodfceilaaGreatDoorM01
import Derived.Test.YtdmmmgodfceilaaGreatDoorM11
set_option maxHeartbeats 64000000
set_option maxRecDepth 100000
namespace Go.Proofs.YtdmmmgodfceilaaGreatDoor
open Go.RowKit Go.Proofs.Tryz
open Go renaming Value->Ap,World->Ao
open Go.Ending renaming returned->Ak
open Go.IntKind renaming i64->J
open Go.Obj renaming cells->Al
open Go.Value renaming bool->Ah,int->I,pointer->Ag,slice->C,string->Y
open Option renaming none->O,some->G
open Or renaming inl->Am,inr->An
variable{s:tq}{e:Ending}{op rb:Nat}{st:St}{v:Ap}{w w':Ao}
def jy(s:ByteArray)(fD fT:St->Res)(st:St):Res:=if st.tk.A=7 then vJ s fD 5 st else fT st
theorem qsg(rb:Nat)(s:tq)(op:Nat)(J4:op<=12)(f:St->Res)(A:op<12->zI 170 rb s (op+1) f)(w:Ao)(st:St)(h:Ready rb s w st)(y:st.op=op)(g:st.tk.A=7):
  ua 170 #[Ag (G ⟨rb,0,O⟩)] w (Gives rb s w op st.M (vJ s f 5 st)):=by
 have H:=qd h;have A1:=h.lt;have C:st.tk.A≠0:=by rw[g];decide
 have Y:(st.tk.A != 7)=false:=by rw[g];rfl
 obtain⟨c0,c1,c2,c3,c4,c5,c6,fz⟩:=h.at';clear g;have aB:=h.U.le C;have M:=qd A;obtain⟨R,k⟩:=it (vJ s f 5 st);rw[k];have K:=qd k;go_enter func170,ntmps170
 go_wp2_with(first|(go_at_call 210;refine(qg7 H ub).mono ?_;rintro e r⟨j,⟨o,rfl,N⟩|⟨o,rfl⟩⟩;all_goals(have B8:=j.size;have t:¬r.1.size=rb:=ub;have c:=qd o);all_goals first|(have a:=qd (j.alloc (Al (tkC st) 154));have m:=qd (N.X (Al (tkC st) 154));simp only[tkV])|(have a:=qd j;simp only[ve]))|(go_at_call 170;refine(M (uu (q9 c)) _ (kZ s st) m (by show st.op+1=op+1;omega)).mono ?_;rintro e w2 z;obtain⟨q,⟨x,F,Q,hq,rfl,D,i,B,U9⟩|⟨X,U,hq,rfl⟩⟩:=z.split m;all_goals(replace a:=qd (a.trans q);have L:=qd hq;obtain⟨T,D4⟩:=pM q t;have n:rb<w2.1.size:=ub);all_goals first|(have d6:w2.cell? ⟨rb,6,O⟩=G (I J ((op:Int)+1)):=(by rw[i.at'.c6,B];simp);have Z:=i.at'.fz;have l:=qd i;have u:=qd D)|simp only[ve])|(go_at_call 211;refine(qax rb x _ _ _ (u.T ((Kept.refl rb w2).setCell 6 _)) (by rw[size_setCell];exact n)).mono ?_;rintro e P⟨⟨S,rfl,d⟩,b⟩;have d:=qd d;have b:=qd b))
 all_goals
  have E:=q9 K;unfold vJ at E
  first
  | (rw[bo (q9 c)]at E;subst E;exact⟨rfl,q9 a,rfl⟩)
  | (
   rw[ak (q9 c),q9 L]at E;subst E
   first
   | exact⟨rfl,q9 a,rfl⟩
   | (
    go_ret;have W:(kZ s st).M=(qh s st).M:=rfl
    exact⟨(a.setCell 6 _).trans (Kept.of_below b),_,rfl,q9 d,(l.at'.b st.op _ ub).below b (by simpa using n),l.U.op _,y,by show st.M<=F.M;omega⟩))
theorem qim(rb:Nat)(s:tq)(op:Nat)(i:op<=12)(b d:St->Res)(g:op<12->zI 170 rb s (op+1) b)(f:zI 209 rb s op d):zI 170 rb s op (jy s b d):=by
 intro w st h c
 by_cases h7:st.tk.A=7
 rw[jy,bo h7];exact qsg rb s op i b g w st h c h7;rw[jy,ak h7];obtain⟨c0,q,p,o,c4,n,m,fz⟩:=h.at';have H:=qd h;have j:=qd f;go_enter func170,ntmps170
 go_wp2_with fail
 refine(j _ st H c).mono ?_;rintro e w' a;rcases a.cases with⟨v,rfl,a⟩|⟨l,k,rfl,a⟩
 .have HG:=qd a
  go_wp2
  go_ret;exact q9 HG
 exact⟨rfl,a⟩
def qy5(st:St)(l:Ast):Ast:=.un ⟨23,st.M,0,[],[],[]⟩ l
def jk(s:ByteArray)(l:Ast)(st:St):Res:=
 if(qh s st).tk.A=7 then(if(qh s (qh s st)).tk.A=15 then .ok (.un ⟨5,st.M,0,[],[],[]⟩ (qy5 st l)) (qh s (qh s (qh s st))) else .err 2 (qh s (qh s st)).M)
 else if(qh s st).tk.A=15 then .ok (qy5 st l) (qh s (qh s st)) else .err 2 (qh s st).M
theorem qsy(rb:Nat)(s:tq)(op:Nat)(l:Ast)(lv:Ap)(w:Ao)(st:St)(h:Ready rb s w st)(z:st.op=op)(m:IsNode rb w lv l)(o:st.tk.A=14):
  ua 229 #[Ag (G ⟨rb,0,O⟩),lv] w (Gives rb s w op st.M (jk s l st)):=by
 have H:=qd h;have A1:=h.lt;have Z:=h.U.le (by rw[o];decide);have r:=qd o;obtain⟨lb,rfl⟩:=m.ptr;have C:=qd m;obtain⟨R,n⟩:=it (jk s l st);rw[n];have P:=qd n;clear h m o n;go_enter func229,ntmps229
 go_wp2_with(first|(go_at_call_of 83 (I IntKind.i64 14);refine be (qhw H r) ?_;rintro j⟨U,F⟩;have B8:=F.size;have y:¬j.1.size=rb:=ub;have B:=qd (U.X (Al (tkC st) 154));have N:=qd (F.alloc (Al (tkC st) 154));simp only[tkV])|(go_at_call 252;refine(qpo B 7).mono ?_;rintro e w2⟨b,L0,rfl,u,D,a⟩;obtain⟨J,T⟩:=pM u y;have M:=qd (N.trans u);have A:=qd D;have Q:=qd a;clear D u a)|(go_at_call_of 83 (I IntKind.i64 15);refine(yM A 15).mono ?_;rintro e x⟨t,⟨d,rfl,S⟩|⟨d,rfl⟩⟩;all_goals(have P9:j.1.size<x.1.size:=(uu t.size);have Y:∀i,x.cell? ⟨j.1.size,i,O⟩=(tkC st)[i]?:=(λi=>((jZ t).1 _ i T y).trans (J i));have c:=qd (M.trans t);have q:=qd d;first|(have f:=qd S;simp only[tkV])|simp only[ve]))|(go_at_call 211;refine(qax rb (qy5 st l) _ _ _ (IsNode.one (C.T c) ub 23 st.M) ud).mono ?_;rintro e W⟨⟨X,rfl,k⟩,g⟩;have k:=qd k;have g:=qd g))
 all_goals
  have E:=q9 P;have d:=q9 q;have L:=(q9 B).U;have K:=(q9 A).U;rw[jk]at E;obtain⟨rfl,a,rfl⟩|⟨rfl,a,rfl⟩:=q9 Q
  all_goals
   first|rw[bo a]at E|rw[ak a]at E
   first|rw[bo d]at E|rw[ak d]at E
   subst E
   first
   | contradiction
   | exact⟨rfl,q9 c,rfl⟩
   | (
    go_ret;have:=K.le ub
    first
    | (
     have:=L.le ub
     exact⟨((c.alloc _).alloc _).trans (Kept.of_below g),_,rfl,q9 k,((f.at'.X _ ub).X _ ud).below g ud,f.U,z,ub⟩)
    | exact⟨(c.alloc _).alloc _,_,rfl,IsNode.one (C.T c) ub 23 st.M,(f.at'.X _ ub).X _ ud,f.U,z,ub⟩)
def qX(s:ByteArray)(f:St->Res)(l:Ast)(st:St):Res:=if st.tk.A=10 then(match f (qh s st) with
  | .ok lo A6=>if A6.tk.A=5 then(match f (qh s A6) with
    | .ok hi L0=>.ok (.tri ⟨20,st.M,0,[],[],[]⟩ l lo hi) L0
    | .err en pl=>.err en pl) else .err 2 A6.M
  | .err en pl=>.err en pl) else .err 2 st.M
theorem IsNode.three{x y z:Ast}{c b a:Ap}(i:IsNode rb w c x)(g:IsNode rb w b y)(f:IsNode rb w a z)(j:rb<w.1.size)(op place:Int):
  IsNode rb ((w.alloc (Al #[c,b,a] 91)).alloc (Al #[I J op,I J place,C (G ⟨w.1.size,0,O⟩) 3 3,I J 0,Y ⟨#[]⟩,Y ⟨#[]⟩,C O 0 0] 163))
   (Ag (G ⟨w.1.size+1,0,O⟩)) (.tri ⟨op,place,0,[],[],[]⟩ x y z):=by
 have d:Kept rb w ((w.alloc (Al #[c,b,a] 91)).alloc (Al #[I J op,I J place,C (G ⟨w.1.size,0,O⟩) 3 3,I J 0,Y ⟨#[]⟩,Y ⟨#[]⟩,C O 0 0] 163)):=((Kept.refl rb w).alloc _).alloc _;refine⟨w.1.size+1,w.1.size,c,b,a,rfl,⟨ub,uc,uc,uc,uc,uc,by simp[BS],by simp[BS],C O 0 0,uc,Am ⟨rfl,rfl⟩⟩,j,ud, ?_, ?_, ?_,i.T d,g.T d,f.T d⟩;rw[bw _ _ _ uc,ch _ _ _ _ rfl];rfl;rw[bw _ _ _ uc,ch _ _ _ _ rfl];rfl;rw[bw _ _ _ uc,ch _ _ _ _ rfl];rfl
theorem qmd(rb:Nat)(s:tq)(op:Nat)(f:St->Res)(F:zI 228 rb s op f)(l:Ast)(lv:Ap)(w:Ao)(st:St)(h:Ready rb s w st)(ho:st.op=op)(u:IsNode rb w lv l):
  ua 255 #[Ag (G ⟨rb,0,O⟩),lv] w (Gives rb s w op st.M (qX s f l st)):=by
 have H:=qd h;have P:=qd F;have A1:=h.lt;obtain⟨lb,rfl⟩:=u.ptr;have HL:=qd u;obtain⟨R,x⟩:=it (qX s f l st);rw[x];have HR:=qd x;clear h u F x;go_enter func255,ntmps255
 go_wp2_with(first|(go_at_call_of 83 (I IntKind.i64 10);refine(yM H 10).mono ?_;rintro e c⟨q,⟨m,rfl,S⟩|⟨m,rfl⟩⟩;all_goals(have B8:=q.size;have t:¬c.1.size=rb:=ub;have y:=qd m;clear m);all_goals first|(have b:=qd (q.alloc (Al (tkC st) 154));have L:=qd (S.X (Al (tkC st) 154));clear S q;simp only[tkV])|(have b:=qd q;simp only[ve]))|(go_at_call 228;refine(P _ (qh s st) L ho).mono ?_;rintro e w2 D;obtain⟨B,⟨lo,U,vb,hq,rfl,N,T,Z9,U9⟩|⟨en,Y,hq,rfl⟩⟩:=D.split L;all_goals(replace b:=qd (b.trans B);have HQ:=qd hq;obtain⟨X,D4⟩:=pM B t;clear B D hq);all_goals first|(have K:=qd T;have Z:=qd N;clear T N)|simp only[ve])|(go_at_call_of 83 (I IntKind.i64 5);refine(yM K 5).mono ?_;rintro e i⟨g,⟨k,rfl,Q⟩|⟨k,rfl⟩⟩;all_goals(replace b:=qd (b.trans g);have o:=qd k;have M:c.1.size<i.1.size:=(uu g.size);have W:Xc i c.1.size 1 (I J st.M):=((jZ g).1 _ 1 D4 t).trans (X 1);clear k);all_goals first|(have PN:=qd (Z.T g);have cO:=qd Q.drew;clear Q g;simp only[tkV])|simp only[ve]))
 all_goals
  have E:=q9 HR;unfold qX at E
  first
  | (rw[ak (q9 y)]at E;subst E;exact⟨rfl,q9 b,rfl⟩)
  | (
   rw[bo (q9 y),q9 HQ]at E
   first
   | (
    have _q:=o
    dsimp only at E
    first
    | (rw[ak (q9 o)]at E;subst E;exact⟨rfl,q9 b,rfl⟩)
    | (
     rw[bo (q9 o)]at E;have n:=qd (P _ (qh s U) cO Z9);have m:=(q9 H).U.le (by rw[q9 y];decide);have k:=(q9 K).U.le (by rw[q9 o];decide)
     cases fO:f (qh s U) with
     | err en Y=>
      rw[fO]at E n;subst E;clear fO
      go_region_with(go_at_call 228;refine n.mono ?_;rintro e d⟨a,rfl⟩;refine vqr (w:=d) ⟨rfl,b.trans ((Kept.refl rb i).drew.trans a),rfl⟩ ?_)
      all_goals trivial
     | ok hi L0=>
      rw[fO]at E n;subst E;clear fO
      go_region_held3 (λw'=>Xc w' c.1.size 1 (I J st.M)) (go_keep) (first|(go_at_call 228;refine n.mono ?_;rintro e d⟨a,v4,rfl,j,A,r,JR,FX⟩;obtain⟨vc,rfl⟩:=j.ptr;have q4:Xc d c.1.size 1 (I J st.M):=((jZ a).1 _ 1 M t).trans W;have RR:c.1.size<d.1.size:=aq M a.size;have a:=qd a;have j:=qd j;have A:=qd A;have r:=qd r))
      go_wp2
      go_ret;have a:=(Kept.refl rb i).drew.trans a;have z:=(q9 b).trans a;have C:rb<d.1.size:=aq A1 z.size
      exact⟨(z.alloc _).alloc _,_,rfl,IsNode.three (HL.T z) (PN.T a) j C 20 st.M,(A.X _ C).X _ ud,q9 r,JR,ub⟩))
   | (subst E;exact⟨rfl,q9 b,rfl⟩))
def qib(K:Nat)(rb:Nat)(s:ByteArray)(op:Nat)(k:Int)(g:Ast->St->Res):Prop:=
 ∀(w:Ao) (st:St) (l:Ast) (lv:Ap),Ready rb s w st->st.op=op->IsNode rb w lv l->st.tk.A=k->Calls prog K #[Ag (G ⟨rb,0,O⟩),lv] w (Gives rb s w op st.M (g l st))
def vr(s:ByteArray)(f:St->Res)(gI gL:Ast->St->Res)(bare:Bool)(l:Ast)(st:St):Res:=
 if st.tk.A=11/\bare=true then gI l st else if st.tk.A=12/\bare=true then gL l st else qX s f l st
theorem qd5(rb:Nat)(s:tq)(op:Nat)(f:St->Res)(d c:Ast->St->Res)(n:zI 228 rb s op f)(q:qib 253 rb s op 11 d)(o:qib 254 rb s op 12 c)
  (bare:Bool) (w:Ao) (st:St) (l:Ast) (lv:Ap) (h:Ready rb s w st) (g:st.op=op) (i:IsNode rb w lv l) :
  ua 230 #[Ag (G ⟨rb,0,O⟩),lv,Ah bare] w (Gives rb s w op st.M (vr s f d c bare l st)):=by
 obtain⟨c0,D,C,B,c4,A,z,fz⟩:=h.at';have BET:=qd (qmd rb s op f n l lv w st h g i);have INN:Hid (st.tk.A=11->ua 253 #[Ag (G ⟨rb,0,O⟩),lv] w (Gives rb s w op st.M (d l st))):=qd λj=>q w st l lv h g i j
 have LIK:Hid (st.tk.A=12->ua 254 #[Ag (G ⟨rb,0,O⟩),lv] w (Gives rb s w op st.M (c l st))):=qd λj=>o w st l lv h g i j
 obtain⟨R,a⟩:=it (vr s f d c bare l st);obtain⟨K,p⟩:=it st.tk.A;rw[a];unfold vr at a;rw[p]at a INN LIK;rcases(show K=11\/K=12\/¬K=11/\¬K=12 by omega) with rfl|rfl|⟨m,k⟩<;>cases bare
 all_goals
  try have y:=bh.2 m
  try have x:=bh.2 k
  try rw[bo ⟨rfl,rfl⟩]at a
  try rw[ak (by simp[*])]at a
  try rw[bo ⟨rfl,rfl⟩]at a
  try rw[ak (by simp[*])]at a
  subst a
  try clear m k
  go_enter func230,ntmps230
  go_wp2_with((first|(go_at_call 255;refine BET.mono ?_)|(go_at_call 253;refine(INN rfl).mono ?_)|(go_at_call 254;refine(LIK rfl).mono ?_));rintro e w' b;rcases b.cases with⟨v,rfl,b⟩|⟨u,t,rfl,b⟩;rotate_left;(exact⟨rfl,b⟩);have r:=qd b)
  go_ret;exact q9 r
theorem qcz:(prog.info? 9).map (λi=>(i.zero,i.size,i.bytes))=G (G (Y ⟨#[]⟩),1,16):=uh
theorem qh1{base e size n:Nat}{xs:List Ap}(h:w.ownsRow base e size v n xs):∃a m c,v=C a m c:=by
 rcases h.2 with⟨rfl,_⟩|⟨g,cap,cur,rfl,_⟩;exact⟨_,_,_,rfl⟩;exact⟨_,_,_,rfl⟩
theorem vjq{B:Nat}{wr d a:Ao}{b:St}{v':Ap}{ts:List tu}{t:tu}{o:Obj}{pv:Ap}
  (r:a.ownsRow (B+1) 9 1 v' (ts.length+1) (qx ts++[Y (BS t)])) (f:(d.alloc o).grownBy a v.ownBlock) (u:wr.ownsRow (B+1) 9 1 v ts.length (qx ts))
  (l:RdAt d rb s b) (x:rb<d.1.size) (m:Kept rb w wr) (g:Kept rb wr d) (q:wr.cell? ⟨B,1,O⟩=G pv) (j:B<wr.1.size) (A:rb<B) (z:w.1.size<=B) :
  a.ownsRow (B+1) 9 1 v' (ts++[t]).length (qx (ts++[t]))/\RdAt a rb s b/\Kept rb w a/\a.cell? ⟨B,1,O⟩=G pv/\B<a.1.size:=by
 have i:∀k,v.ownBlock=G k->B+1<=k:=λk c=>(u.lt k c).1
 have y:=g.size;have n:=f.size;simp at n;refine⟨by rw[ce,qx,dq];exact r,(l.X o x).grown f ud (λk c=>uu (i k c)),((m.trans g).alloc o).grown f (λk c=>uu (i k c)), ?_,ub⟩;refine f.cell ?_ (λe=>uu (i B e.symm));rw[bw _ _ _ ub];exact((jZ g).1 B 1 j ub).trans q
theorem vdr(rb:Nat)(s:tq)(op:Nat)(hs:s.size<=200):qib 253 rb s op 11 (xE s):=by
 intro w st l lv h ho K S;have H:=qd h;have A1:=h.lt;have TZ:=h.U.lt (by rw[S];decide);have X:=h.U.next;have W:=qd S;obtain⟨lb,rfl⟩:=K.ptr;have HL:=qd K;have L8:(qh s st).tk.A=26->(qh s st).M<(qh s (qh s st)).M:=λh=>X.lt (by rw[h];decide)
 have lS:(qh s (qh s st)).tk.A=4->(qh s (qh s st)).M<(qh s (qh s (qh s st))).M:=λh=>X.next.lt (by rw[h];decide)
 have HF:=qd (And.intro L8 lS);obtain⟨i0,hi,F5,nG,nF⟩:=info_parts qcz;obtain⟨R,j⟩:∃r,xE s l st=r:=⟨_,rfl⟩;rw[j];unfold xE at j;have u:=qd j;have FS:=λb=>qir (qh s (qh s st)).tk.A (qh s (qh s st)).M (qh s (qh s st)).tk.K b
 clear h K S j X L8 lS;go_enter func253,ntmps253
 go_wp2_with(first|(go_at_call_of 83 (I IntKind.i64 11);refine be (qhw H W) ?_;rintro g⟨C7,A4⟩;have B8:=A4.size;have F:¬g.1.size=rb:=ub;have T0:=qd (C7.X (Al (tkC st) 154));have d:=qd (A4.alloc (Al (tkC st) 154));simp only[tkV])|(go_at_call_of 83 (I IntKind.i64 26);refine(yM T0 26).mono ?_;rintro e w2⟨A8,⟨M,rfl,B9⟩|⟨M,rfl⟩⟩;all_goals(obtain⟨q2,D4⟩:=pM A8 F;replace d:=qd (d.trans A8);have z:=qd M;clear A8 M);all_goals first|(have bK:=qd B9;simp only[tkV])|simp only[ve])|(go_at_call_of 83 (I IntKind.i64 4);refine(yM bK 4).mono ?_;rintro e w3⟨B,⟨L,rfl,D8⟩|⟨L,rfl⟩⟩;all_goals(have P9:g.1.size<w3.1.size:=(uu B.size);have q3:w3.cell? ⟨g.1.size,1,O⟩=G (I J st.M):=((jZ B).1 _ 1 D4 F).trans (q2 1);replace d:=qd (d.trans B);have U:=qd L;clear B L);all_goals first|(have cO:=qd D8;simp only[tkV])|simp only[ve]))
 rotate_left
 iterate 2
  have E:=q9 u
  first
  | (rw[ak (q9 z)]at E;subst E;exact⟨rfl,q9 d,rfl⟩)
  | (rw[bo (q9 z),ak (q9 U)]at E;subst E;exact⟨rfl,q9 d,rfl⟩)
 have E:=q9 u;rw[bo (q9 z),bo (q9 U)]at E;have hle2:=(q9 HF).1 z;have hle3:=(q9 HF).2 U;replace u:=qd E
 go_loopw [6] (λv wr=>∃(n:Nat) (ts:List tu) (a:St),Hid (R=zQ s l st.M n ts a)/\s.size<n+a.M/\Hid (wr.ownsRow (g.1.size+1) 9 1 v ts.length (qx ts))/\Hid (Ready rb s wr a)/\a.op=op/\ts.length<=a.M/\st.M<=a.M/\Hid (Kept rb w wr)/\wr.cell? ⟨g.1.size,1,O⟩=G (I J st.M)/\g.1.size<wr.1.size) (λv wr=>s.size+1 - vqu wr rb)
 case atStart=>exact⟨s.size+1,_,_,qd u.symm,ub,qd (vn1 _ _ ub _),qd (cO.X _),ho,ud,ub,qd (d.alloc _),by rw[bw _ _ _ (by first|omega|(simp;omega))];exact q3,ud⟩
 clear d u T0 bK cO FS;obtain⟨n,ts,a,j,hn,y,A,lL,V3,Q6,d,fZ,uB⟩:=hrel;have T:=(q9 A).U;have OV:=T.M;obtain⟨m,rfl⟩:∃m,n=m+1:=⟨n - 1,ub⟩;have dV:=(q9 A).lt;have XO:=qd (qh2 A.at');have I8:rb<g.1.size+1:=ub;have x:=qd T;have FS:=λb=>qir (qh s a).tk.A (qh s a).M (qh s a).tk.K b
 clear T;obtain⟨va,vn,vc,rfl⟩:=qh1 y
 go_wp2_with(first|(go_at_call 252;refine(qpo A 28).mono ?_;rintro e w4⟨b,D,rfl,M3,O6,c⟩;have IM:=qd c;have bP:=qd M3;have wN:=qd O6;clear c O6 M3)|(go_at_call_of 83 (I IntKind.i64 4);refine(yM wN 4).mono ?_;rintro e C⟨t,⟨Q,rfl,q⟩|⟨Q,rfl⟩⟩;all_goals(have f:=qd (bP.trans t);have P:=qd Q;clear t Q);all_goals first|(obtain⟨_,c,M6⟩:b=true/\a.tk.A=28/\D=qh s a:=(by obtain h|⟨rfl,_⟩:=q9 IM;exact h;contradiction);subst M6;have nE:=(q9 f).size;have iI:=qh0 y f I8;have HX:=qd (And.intro c (x.lt (by rw[c];decide)));have k:=qd q;clear q c;simp only[tkV])|simp only[ve])|(at_builtin;refine wpList_append_own _ rfl _ _ 31 rfl (g.1.size+1) 9 i0 (Y ⟨#[]⟩) 1 16 underlying31 hi F5 nG nF rfl ue _ _ _ rfl (iI.alloc _) ⟨C.1.size,0,O⟩ 1 1 [Y (BS (qh s a).tk.V)] rfl rfl ?c1 ?c2 ?c3 ?c4 ?c5 ?_)|(go_at_call_of 83 (I IntKind.i64 27);refine(yM wN 27).mono ?_;rintro e C⟨t,⟨N,rfl,q⟩|⟨N,rfl⟩⟩;all_goals(have f:=qd (bP.trans t);have Z:=qd N;have q5:C.cell? ⟨g.1.size,1,O⟩=G (I J st.M):=((jZ f).1 _ 1 uB F).trans fZ;have nE:=(q9 f).size;clear t N);all_goals first|(have k:=qd q;clear q;simp only[tkV])|simp only[ve]))
 case c2=>rfl
 case c3=>unfold maxLen;omega
 case c4=>omega
 case c5=>omega
 .intro v' w6 G9 A5 _
  have i:=vjq G9 A5 y k.at' k.lt d f fZ uB ub ub;clear G9 A5 y iI;have ER:=qd (qh2 i.2.1);have i:=qd i;obtain⟨c,tG⟩:=q9 HX;have oF:=(q9 x).next.lt (by rw[q9 P];decide);have UC:=(q9 x).next.next.M;have bA:Hid (R=zQ s l st.M m (ts++[(qh s a).tk.V]) (qh s (qh s a))):=qd (by rw[q9 j,qcv c (q9 P)]);clear c
  go_wp2
  go_roundw
  exact⟨m,_,_,bA,ub,qd i.1,qd (H.T i.2.2.1 i.2.1 x.next.next),lL,ud,ub,qd i.2.2.1,i.2.2.2.1,i.2.2.2.2⟩;rw[q9 XO,q9 ER];omega
 all_goals
  have E:=q9 j;obtain⟨rfl,c,rfl⟩|⟨rfl,c,rfl⟩:=q9 IM
  all_goals first
  | contradiction
  | (rw[qew c (q9 P)]at E;subst E;exact⟨rfl,d.trans f,rfl⟩)
  | (rw[qcw c (q9 Z)]at E;subst E;exact⟨rfl,d.trans f,rfl⟩)
  | (
   rw[qex c (q9 Z)]at E;subst E;go_ret;have GD:=(q9 x).lt (by rw[q9 Z];decide);have lO:=(q9 k).lt;have o:=(q9 d).trans f
   exact⟨(o.alloc _).alloc _,_,rfl,IsNode.texted (HL.T o) lO ((TextsAt.of_row y I8).T f) 21 st.M [] [],(k.at'.X _ lO).X _ ud,k.U,lL,ub⟩)
theorem qdm:(l:tu)->∀r,vm l=G r->r.1.length<=l.length
 | [],r,h=>by simp[vm]at h
 | [c],r,h=>by
  simp only[vm]at h;split at h
  .injection h with h;subst h;simp
  .cases h
 | c::d::t,r,h=>by
  simp only[vm]at h
  split at h
  .split at h
   .cases hq:vm t with
    | none=>rw[hq]at h;cases h
    | some q=>rw[hq]at h;injection h with h;subst h;have:=qdm t q hq;simp;omega
   .injection h with h;subst h;simp
  .cases hq:vm (d::t) with
   | none=>rw[hq]at h;cases h
   | some q=>rw[hq]at h;injection h with h;subst h;have:=qdm (d::t) q hq;simp at *;omega
theorem qn3(l:tu):(vh l).V.length<=l.length:=by
 unfold vh
 split
 simp[qi];rename_i c t
 split
 .unfold j9;split
  simp only[cw];omega;simp[qi]
 split
 .unfold xN;split<;>simp[qi]
 split
 .unfold vP;split
  .rename_i r hr
   have:=qdm _ _ hr;rw[dj]at this;show r.1.length<=_;omega
  simp[qi]
 simp[qi]
theorem qbe(s:tq)(st:St):(qh s st).tk.V.length<=s.size:=by
 show(qQ s.data.toList st.B).V.length<=s.size;unfold qQ
 split
 have:=qn3 (s.data.toList.drop (qS s.data.toList st.B));rw[dj,qu]at this;omega;simp[qi]
inductive ERes where
 | ok (str:List UInt8) (st:St)
 | err (pl:Int)
def pd(s:ByteArray)(ft:Tk)(fp:Nat)(st:St):ERes:=
 if st.tk.A=4 then(if st.tk.V.length=1 then(if(zJ st.tk.V ft.V).isSome=true then .ok st.tk.V (qh s st) else .err fp) else .err st.M) else .err st.M
def EscEnds(rb:Nat)(s:ByteArray)(w:Ao)(r:ERes)(e:Ending)(w':Ao):Prop:=
 Kept rb w w'/\match r with
 | .ok str st=>e=Ak (Y (BS str))/\RdAt w' rb s st
 | .err pl=>e=ve 2 pl
theorem EscEnds.split{r:ERes}(h:EscEnds rb s w r e w')(H:Ready rb s w st)(a:∀str st',r=.ok str st'->st'=qh s st):Kept rb w w'/\((∃str,r=.ok str (qh s st)/\e=Ak (Y (BS str))/\Ready rb s w' (qh s st))\/∃pl,r=.err pl/\e=ve 2 pl):=by
 cases r with
 | ok str st'=>obtain rfl:=a _ _ rfl;exact⟨h.1,Am ⟨str,rfl,h.2.1,H.T h.1 h.2.2 H.U.next⟩⟩
 | err pl=>exact⟨h.1,An ⟨pl,rfl,h.2⟩⟩
theorem qsj(rb:Nat)(s:tq)(a:Tk)(b:Nat)(i:a.V.length<=200)(w:Ao)(st:St)(h:Ready rb s w st):
  ua 289 #[Ag (G ⟨rb,0,O⟩),tkV a b] w (EscEnds rb s w (pd s a b st)):=by
 have z:=qd (h.X (Al #[I J a.A,I J b,I J a.K,Y (BS a.V)] 154));have K:=h.lt;have n0:¬w.1.size=rb:=ub;have o:Hid (((((BS st.tk.V).size:Int) != 1)=false->st.tk.V.length=1)/\((((BS st.tk.V).size:Int) != 1)=true->¬st.tk.V.length=1)):=qd (by rw[qJ];constructor<;>intro h<;>simp at h<;>omega);have VAL:=qd (λw=>vbi (BS a.V) (BS st.tk.V) (by rw[qJ];exact i) w);rw[xB,xB]at VAL;obtain⟨R,l⟩:=it (pd s a b st);rw[l];have y:=qd l;clear h l;simp only[tkV];obtain⟨V,k⟩:=it ((zJ st.tk.V a.V).isSome);rw[k]at VAL;have x:=qd k;clear k;cases sU:(((BS st.tk.V).size:Int) != 1)<;>cases V
 all_goals
  go_enter func289,ntmps289
  go_wp2_with(first|(go_at_call 83;refine(yM z 4).mono ?_;rintro e g⟨d,⟨m,rfl,r⟩|⟨m,rfl⟩⟩;all_goals(have H:w.1.size<g.1.size:=(by have:=d.size;simp at this;omega);have F:¬g.1.size=rb:=ub;have t:g.cell? ⟨w.1.size,1,O⟩=G (I J b):=((jZ d).1 _ 1 uc n0).trans uc;have D:g.cell? ⟨w.1.size,3,O⟩=G (Y (BS a.V)):=((jZ d).1 _ 3 uc n0).trans uc;have q:=qd m;clear m);all_goals first|(have c:=qd ((((Kept.refl rb w).alloc (Al #[I J a.A,I J b,I J a.K,Y (BS a.V)] 154)).trans d).alloc (Al (tkC st) 154));have n:=qd (r.X (Al (tkC st) 154));clear r d;simp only[tkV])|(have c:=qd (((Kept.refl rb w).alloc (Al #[I J a.A,I J b,I J a.K,Y (BS a.V)] 154)).trans d);simp only[ve]))|(go_at_call 314;refine be (VAL _) λw2 f=>?_;obtain⟨j,u⟩:=qk f;have A:=f.size;have C:w2.cell? ⟨w.1.size,1,O⟩=G (I J b):=(j _ 1 ud).trans (by rw[bw _ _ _ (by first|omega|(simp;omega))];exact t);have B:w2.cell? ⟨g.1.size,3,O⟩=G (Y (BS st.tk.V)):=(j _ 3 uc).trans uc;replace c:=qd (c.trans (Kept.of_below f));have f:=qd f;clear j u)|(go_at_call 121;refine be (qf7 _ _ _) ?_;rintro w2 rfl;simp only[ve]))
  all_goals
   have E:=q9 y;unfold pd at E
   first
   | (rw[ak (q9 q)]at E;subst E;exact⟨rfl,q9 c,rfl⟩)
   | (
    rw[bo (q9 q)]at E
    first
    | (rw[ak ((q9 o).2 sU)]at E;subst E;exact⟨rfl,q9 c,rfl⟩)
    | (
     rw[bo ((q9 o).1 sU),q9 x]at E
     first
     | (rw[ak ue]at E;subst E;exact⟨rfl,q9 c,rfl⟩)
     | (rw[bo rfl]at E;subst E;go_ret;exact⟨q9 c,rfl,n.at'.below f n.lt⟩)))
def vp(s:ByteArray)(l:Ast)(st:St):Res:=
 if(qh s st).tk.A=4 then
  (if(qh s (qh s st)).tk.A=13 then
   (match pd s (qh s st).tk (qh s st).M (qh s (qh s (qh s st))) with
    | .ok str st'=>.ok (.un ⟨22,st.M,0,(qh s st).tk.V,str,[]⟩ l) st'
    | .err pl=>.err 2 pl)
  else .ok (.un ⟨22,st.M,0,(qh s st).tk.V,[],[]⟩ l) (qh s (qh s st)))
 else .err 2 (qh s st).M
theorem qct{d:Tk}{f:Nat}{str:tu}{a:St}(h:pd s d f st=.ok str a):st.tk.A=4/\a=qh s st:=by
 unfold pd at h
 split at h
 rename_i b
 split at h
 split at h
 injection h with _ c;exact⟨b,c.symm⟩;cases h;cases h;cases h
theorem qt2(rb:Nat)(s:tq)(op:Nat)(hs:s.size<=200):qib 254 rb s op 12 (vp s):=by
 intro w st l lv h ho C K;have H:=qd h;have A1:=h.lt;have T8:=h.U.le (by rw[K];decide);have mI:=qd K;obtain⟨lb,rfl⟩:=C.ptr;have X:=qd C;have M:(qh s st).tk.V.length<=200:=bs (qbe s st) hs;obtain⟨R,j⟩:=it (vp s l st);rw[j];unfold vp at j;obtain⟨c,o⟩:∃x,qh s st=x:=⟨_,rfl⟩;rw[o]at j M T8;have U:c.op=op:=o ▸ ho
 have HR:=qd j;have S1:=qd o;clear h C K j o;go_enter func254,ntmps254
 go_wp2_with(first|(go_at_call_of 83 (I IntKind.i64 12);refine(qhw H mI).mono ?_;rw[q9 S1];rintro e m⟨rfl,C7,L⟩;have B8:=L.size;have A:¬m.1.size=rb:=ub;have T:=qd (C7.X (Al (tkC st) 154));have a:=qd (L.alloc (Al (tkC st) 154));clear C7 L;simp only[tkV])|(go_at_call_of 83 (I IntKind.i64 4);refine(yM T 4).mono ?_;rintro e w2⟨u,⟨n,rfl,B9⟩|⟨n,rfl⟩⟩;all_goals(obtain⟨q2,D4⟩:=pM u A;have N:¬w2.1.size=rb:=ub;have F:=qd n;clear n);all_goals first|(have z:∀i,(w2.alloc (Al (tkC c) 154)).cell? ⟨m.1.size,i,O⟩=(tkC st)[i]?:=(λi=>(bw _ _ _ (by first|omega|(simp;omega))).trans (q2 i));replace a:=qd ((a.trans u).alloc (Al (tkC c) 154));have S:=qd (B9.X (Al (tkC c) 154));clear B9 u;simp only[tkV])|(replace a:=qd (a.trans u);simp only[ve]))|(go_at_call 252;refine(qpo S 13).mono ?_;rintro e w3⟨b,ZQ,rfl,t,Z,f⟩;obtain⟨r,P9⟩:=pM t N;have q3:∀i,w3.cell? ⟨m.1.size,i,O⟩=(tkC st)[i]?:=(λi=>((jZ t).1 _ i ud A).trans (z i));replace a:=qd (a.trans t);have d:=qd Z;have G:=qd f;clear Z t f)|(go_at_call 289;refine(qsj rb s c.tk c.M M _ ZQ d).mono ?_;rintro e y P;obtain⟨q,⟨str,hq,rfl,W⟩|⟨pl,hq,rfl⟩⟩:=P.split d (λ_ _ h=>(qct h).2);all_goals(have RR:w2.1.size<y.1.size:=(uu q.size);obtain⟨B,kf⟩:=jZ q;have u3:Xc y w2.1.size 3 (Y (BS c.tk.V)):=(B _ 3 P9 N).trans (r 3);have u1:Xc y m.1.size 1 (I J st.M):=(B _ 1 ub A).trans (q3 1);replace a:=qd (a.trans q);have D:=qd hq;clear q B kf hq P);all_goals first|(have g:=qd W;clear W)|simp only[ve]))
 all_goals
  have E:=q9 HR
  first
  | (rw[ak (q9 F)]at E;subst E;exact⟨rfl,q9 a,rfl⟩)
  | (
   rw[bo (q9 F)]at E;have n:=(q9 T).U.le (by rw[q9 F];decide);have Q:=(q9 S).U;obtain⟨rfl,f,k⟩|⟨rfl,f,k⟩:=q9 G
   .rw[bo f,<-k]at E
    have:=Q.le (by rw[f];decide)
    first
    | (
     have _q:=D;rw[q9 D]at E;subst E
     first
     | exact⟨rfl,q9 a,rfl⟩
     | (
      go_ret;have h5:=(q9 d).U.le (by rw[(qct (q9 D)).1];decide)
      exact⟨(a.alloc _).alloc _,_,rfl,IsNode.texted (X.T a) g.lt (Am ⟨rfl,rfl⟩) 22 st.M _ _,(g.at'.X _ g.lt).X _ (by have:=(q9 g).lt;simp;omega),g.U,by rw[k];exact U,by rw[k]at h5 |-;omega⟩))
    | contradiction
   .rw[ak f]at E
    subst E
    first
    | contradiction
    | (
     go_ret;have J6:=IsNode.texted (ts:=[]) (X.T a) d.lt (Am ⟨rfl,rfl⟩) 22 st.M c.tk.V []
     exact⟨(a.alloc _).alloc _,_,rfl,by simpa [BS]using J6,by rw[<-k];exact(d.at'.X _ d.lt).X _ (by have:=(q9 d).lt;simp;omega),Q,U,ub⟩))
def opA:Ast->Int
 | .leaf p=>p.op
 | .un p _=>p.op
 | .bin p _ _=>p.op
 | .tri p _ _ _=>p.op
theorem IsNode.opAt{t:Ast}(h:IsNode rb w v t):∃b,v=Ag (G ⟨b,0,O⟩)/\Xc w b 0 (I J (opA t)):=by
 cases t with
 | leaf p=>obtain⟨b,hv,h⟩:=h;exact⟨b,hv,h.c0⟩
 | un p x=>obtain⟨b,g,a,hv,h,_⟩:=h;exact⟨b,hv,h.c0⟩
 | bin p x y=>obtain⟨b,g,a,c,hv,h,_⟩:=h;exact⟨b,hv,h.c0⟩
 | tri p x y z=>obtain⟨b,g,a,c,d,hv,h,_⟩:=h;exact⟨b,hv,h.c0⟩
def qau(st:St)(l:Ast):Bool:=st.tk.A==2&&opA l==0
def zg(s:ByteArray)(f:St->Res)(gI gL:Ast->St->Res)(bare:Bool)(l:Ast)(st:St):Res:=
 if st.tk.A=16\/st.tk.A=17\/st.tk.A=18\/st.tk.A=19\/st.tk.A=20\/st.tk.A=21 then jJ s f st l
 else if st.tk.A=14 then(if bare=true then jk s l st else .ok l st)
 else if st.tk.A=7 then(match vr s f gI gL bare l (qh s st) with
  | .ok t st'=>.ok (.un ⟨5,st.M,0,[],[],[]⟩ t) st'
  | .err en pl=>.err en pl)
 else if st.tk.A=10\/st.tk.A=11\/st.tk.A=12 then vr s f gI gL bare l st
 else .ok l st
def zh(s:ByteArray)(f:St->Res)(gI gL:Ast->St->Res)(st:St):Res:=match f st with
 | .ok l st'=>zg s f gI gL (qau st l) l st'
 | .err en pl=>.err en pl
theorem Gives.from'{b:Ao}{c a:Nat}{r:Res}(h:Gives rb s b op c r e w')(f:Kept rb w b)(d:a<=c):Gives rb s w op a r e w':=by
 refine⟨f.trans h.1, ?_⟩
 cases r with
 | ok t st=>obtain⟨_,v,m,l,k,j,i,g⟩:=h;exact⟨v,m,l,k,j,i,bs d g⟩
 | err en pl=>exact h.2
theorem vk6{x k:Int}(a:x=k):(x==16)=(k==16)/\(x==17)=(k==17)/\(x==18)=(k==18)/\(x==19)=(k==19)/\(x==20)=(k==20)/\(x==21)=(k==21)/\(x==14)=(k==14)/\(x==7)=(k==7)/\(x==10)=(k==10)/\(x==11)=(k==11)/\(x==12)=(k==12):=by subst a;exact⟨rfl,rfl,rfl,rfl,rfl,rfl,rfl,rfl,rfl,rfl,rfl⟩
theorem vmz(s:tq)(f:St->Res)(c a:Ast->St->Res)(l:Ast)(st:St):
  ((st.tk.A=16\/st.tk.A=17\/st.tk.A=18\/st.tk.A=19\/st.tk.A=20\/st.tk.A=21)/\∀b,zg s f c a b l st=jJ s f st l) \/
  (st.tk.A=14/\∀b,zg s f c a b l st=if b=true then jk s l st else .ok l st) \/
  (st.tk.A=7/\∀b,zg s f c a b l st=(match vr s f c a b l (qh s st) with|.ok t st'=>.ok (.un ⟨5,st.M,0,[],[],[]⟩ t) st'|.err en pl=>.err en pl)) \/
  ((st.tk.A=10\/st.tk.A=11\/st.tk.A=12)/\∀b,zg s f c a b l st=vr s f c a b l st) \/
  (((st.tk.A==16)=false/\(st.tk.A==17)=false/\(st.tk.A==18)=false/\(st.tk.A==19)=false/\(st.tk.A==20)=false/\(st.tk.A==21)=false/\(st.tk.A==14)=false/\(st.tk.A==7)=false/\(st.tk.A==10)=false/\(st.tk.A==11)=false/\(st.tk.A==12)=false)/\∀b,zg s f c a b l st=.ok l st):=by
 unfold zg
 by_cases h1:st.tk.A=16\/st.tk.A=17\/st.tk.A=18\/st.tk.A=19\/st.tk.A=20\/st.tk.A=21
 .exact Am ⟨h1,λb=>bo h1⟩
 by_cases h2:st.tk.A=14
 .exact An (Am ⟨h2,λb=>by rw[ak h1,bo h2]⟩)
 by_cases h3:st.tk.A=7
 .exact An (An (Am ⟨h3,λb=>by rw[ak h1,ak h2,bo h3]⟩))
 by_cases h4:st.tk.A=10\/st.tk.A=11\/st.tk.A=12
 .exact An (An (An (Am ⟨h4,λb=>by rw[ak h1,ak h2,ak h3,bo h4]⟩)))
 refine An (An (An (An ⟨?_,λb=>by rw[ak h1,ak h2,ak h3,ak h4]⟩)));simp only[bh]
 (repeat' apply And.intro)<;>(intro;omega)
structure TT(rb:Nat)(s:ByteArray)(op:Nat)(f:St->Res)(gI gL:Ast->St->Res)(w:Ao)(st:St)(l:Ast)(A6:St):Prop where
 af:zI 228 rb s op f
 ai:qib 253 rb s op 11 gI
 al:qib 254 rb s op 12 gL
 ah:Ready rb s w st
 ao:st.op=op
 ar:f st=.ok l A6
theorem vaw{f:St->Res}{k j:Ast->St->Res}{l:Ast}{g:St}(T:TT rb s op f k j w st l g):
  ua 209 #[Ag (G ⟨rb,0,O⟩)] w (Gives rb s w op st.M (zg s f k j (qau st l) l g)):=by
 obtain⟨hf,hI,hL,h,ho,A9⟩:=T;have H:=qd h;have x:=qd hf;have Z:=qd hI;have Y:=qd hL;have L4:=qd A9;obtain⟨c0,c1,c2,c3,c4,c5,c6,fz⟩:=h.at';obtain⟨A,G0⟩:∃q,(st.tk.A==2)=q:=⟨_,rfl⟩;obtain⟨z,A0⟩:∃q,(opA l==0)=q:=⟨_,rfl⟩;obtain⟨r,I⟩:=it (vr s f k j (A&&z) l (qh s g));rw[show qau st l=(A&&z) by unfold qau;rw[G0,A0]];cases A<;>cases z<;>simp only[Bool.and_self,mn,iz]at I |-
 all_goals
  rcases vmz s f k j l g with⟨c|c|c|c|c|c,m⟩|⟨c,m⟩|⟨c,m⟩|⟨c|c|c,m⟩|⟨c,m⟩
 all_goals
  rw[m]
  first|(rw[I];have J:=qd I;cases r)|(simp only[dg,if_true,if_false])|skip
 all_goals
  have N:=qd c
  first
   | (
    have E:=vk6 c;simp only[Int.reduceBEq]at E
    obtain⟨MC,MB,QA,PW,PU,F,DY,e7,EA,GV,GU⟩:=E)
   | obtain⟨MC,MB,QA,PW,PU,F,DY,e7,EA,GV,GU⟩:=c
  try clear c
  go_enter func209,ntmps209
  go_wp2_with(first|(go_at_call 228;refine(x _ st H ho).mono ?_;rintro e w1⟨A4,S⟩;rw[q9 L4]at S;obtain⟨v1,rfl,i,C7,y,o,t⟩:=S;obtain⟨b,rfl,cb⟩:=i.opAt;obtain⟨d0,d1,d2,d3,d4,d5,d6,dz⟩:=C7;have d:=qd (H.T A4 ⟨d0,d1,d2,d3,d4,d5,d6,dz⟩ y);have i:=qd i;have n:=qd A4)|(go_at_call 169;refine(qey ue rb s op f x g l _ _ d o i).mono ?_;rintro e w' a;have a:=a.from' n (bs t (Nat.le_of_lt (y.long (by rw[q9 N];decide))));rcases a.cases with⟨v,rfl,a⟩|⟨U,Q,rfl,a⟩;rotate_left;(exact⟨rfl,a⟩);have K:=qd a)|(go_at_call 229;refine(qsy rb s op l _ _ g d o i N).mono ?_;rintro e w' a;have a:=a.from' n t;rcases a.cases with⟨v,rfl,a⟩|⟨U,Q,rfl,a⟩;rotate_left;(exact⟨rfl,a⟩);have K:=qd a)|(go_at_call 81;refine be (yA rb s g _ d.size d.U.B d.at' d.lt d.err) ?_;rintro w2⟨B9,P⟩;have O7:=qd (i.T P);have W:=qd (n.trans P);have X:=qd (d.T P B9 (d.U.next)))|(go_at_call 230;refine(qd5 rb s op f k j x Z Y _ _ (qh s g) l _ X o O7).mono ?_;rintro e w3⟨M,D⟩;rw[q9 J]at D;(first|(subst D;simp only[ve])|(obtain⟨v3,rfl,C,L,lS,JT,hp3⟩:=D;have C:=qd C;have L:=qd L;have dF:=qd (W.trans M);have R:rb<w3.1.size:=aq X.lt M.size)))|(go_at_call 230;refine(qd5 rb s op f k j x Z Y _ _ g l _ d o i).mono ?_;rintro e w' a;have a:=a.from' n t;rcases a.cases with⟨v,rfl,a⟩|⟨U,Q,rfl,a⟩;rotate_left;(exact⟨rfl,a⟩);have K:=qd a)|(go_at_call 211;refine(qax rb _ _ _ _ C R).mono ?_;rintro e w4⟨⟨v4,rfl,B⟩,u⟩;have B:=qd B;have u:=qd u))
  first
   | exact⟨rfl,W.trans M,rfl⟩
   | (
    go_ret
    first
     | exact q9 K
     | (
      have tG:=y.le (by rw[q9 N];decide)
      exact⟨dF.trans (Kept.of_below u),_,rfl,q9 B,L.below u R,lS,JT,ub⟩)
     | exact⟨q9 n,_,rfl,q9 i,d.at',y,o,t⟩)
end Go.Proofs.YtdmmmgodfceilaaGreatDoor
