/- Unsubscribe -/
import Derived.Test.YtdmmmgodfceilaaGreatDoorM04
import Derived.Test.YtdmmmgodfceilaaGreatDoorM25
set_option maxHeartbeats 32000000
set_option maxRecDepth 100000
namespace Go.Proofs.YtdmmmgodfceilaaGreatDoor
open Go.RowKit Go.Proofs.Tryz
open Go renaming Value->Ap,World->Ao
open Go.Ending renaming returned->Ak
open Go.IntKind renaming i64->J
open Go.Obj renaming cells->Al
open Go.Value renaming agg->Ai,bool->Ah,int->I,pointer->Ag,slice->C,string->Y,tuple->Aj
open Option renaming none->O,some->G
open Or renaming inl->Am,inr->An
variable{P:Co->Prop}{id last n:Int}{cs:List Co}{z zs:List Int}{ms ms':List Mg}{pos:List Nat}{ps:List Pr}{R:List Ru}{L:List Su}{st:List Su×List Int×List Int}{l:List Sx}{ts us:List Tm}{m:Mg}{base bb g i j k mb p:Nat}{F:Nat->Prop}{x:Su}{t:TypeId}{a b c d fv mv posv rv rv' sv tv tv' v v':Ap}{W W' w w' w1 w2 wr wr':Ao}
theorem qfw(h:w.1[bb]?=G (Al #[a,b,c,d] t (0,0)))(x:Ap):(w.setCell ⟨bb,1,O⟩ x).1[bb]?=G (Al #[a,x,c,d] t (0,0)):=by
 rw[setCell_eq_setRow w bb 1 _ t (0,0) x h];exact setRow_heap w bb _ _ t (0,0) h
theorem qq1(h:w.1[bb]?=G (Al #[a,b,c,d] t (0,0)))(x:Ap):(w.setCell ⟨bb,2,O⟩ x).1[bb]?=G (Al #[a,b,x,d] t (0,0)):=by
 rw[setCell_eq_setRow w bb 2 _ t (0,0) x h];exact setRow_heap w bb _ _ t (0,0) h
theorem qq2(h:w.1[bb]?=G (Al #[a,b,c,d] t (0,0)))(x:Ap):(w.setCell ⟨bb,3,O⟩ x).1[bb]?=G (Al #[a,b,c,x] t (0,0)):=by
 rw[setCell_eq_setRow w bb 3 _ t (0,0) x h];exact setRow_heap w bb _ _ t (0,0) h
theorem vcb(h:w.1[bb]?=G (Al #[a,b,c,d] t (0,0)))(x:Ap):(w.setCell ⟨bb,0,O⟩ x).1[bb]?=G (Al #[x,b,c,d] t (0,0)):=by
 rw[setCell_eq_setRow w bb 0 _ t (0,0) x h];exact setRow_heap w bb _ _ t (0,0) h
theorem qih(h:w.1[bb]?=G (Al #[a,b,c,d] t (0,0))):Xc w bb 0 a/\Xc w bb 1 b/\Xc w bb 2 c/\Xc w bb 3 d/\(Xf w bb)/\bb<w.1.size:=by
 refine⟨?_, ?_, ?_, ?_, ?_,(cf.1 h).1⟩<;>simp[World.cell?,World.frozen?,h]
def qea(l:List Sx)(k:Nat):List Sx:=l.take k++l.drop (k+1)
theorem qw9(l:List Sx)(k:Nat):(qea l k).map Sx.sb=qg6 (l.map Sx.sb) k:=by simp[qea,qg6]
theorem qqe(l:List Sx)(k:Nat):(qea l k).Sublist l:=by
 have h:(l.take k++l.drop (k+1)).Sublist (l.take k++l.drop k):=List.Sublist.append_left (by
  have:l.drop (k+1)=(l.drop k).drop 1:=by rw[th]
  rw[this]
  exact List.drop_sublist _ _) _
 rwa [fh]at h
theorem vnh(f:l.map Sx.su=L)(e:L[i]?=G x):∃y,l[i]?=G y/\y.su=x:=by
 rw[<-f,cm]at e
 cases hl:l[i]? with
 | none=>rw[hl]at e;cases e
 | some y=>rw[hl]at e;exact⟨y,rfl,by simpa using e⟩
def jt(L:List Su):List Tm×List Nat:=jE (L.map Su.co) L.length
theorem gR(l:List Sx):jt (l.map Sx.su)=(tsX l,rsX l):=by
 unfold jt tsX rsX yk;rw[lq,cd];rfl
def PrgS(L:List Su):Prop:=Prg (jt L).1 (jt L).2
theorem qcu(f:BrAt w bb last sv tv rv l)(r:∀x∈l,x.id≠id):ut 71 #[Ag (G ⟨bb,0,O⟩),I J id] w (Aj #[I J (vl (l.map Sx.sb) id),Ah false]):=by
 have h:=pU bb (l.map Sx.sb) id _ w f.cells.2.1 (SbRow.subs f.row) f.up (by rw[cd];exact f.n8)
 have e:((l.map Sx.sb).any λs=>s.id==id)=false:=by
  rw[oz];intro s q;obtain⟨x,o,rfl⟩:=eg.1 q;have:=r x o;simpa [Sx.sb]using this
 rw[e]at h;exact h
theorem vkz(w:Ao)(F:Nat->Prop)(bb:Nat)(last:Int)(L:List Su)(h:Br w F bb last L)(id:Int)(q:∀x∈L,x.id≠id):
  ut 44 #[Ag (G ⟨bb,0,O⟩),I J id] w (Aj #[I J 0,I J 5]):=by
 obtain⟨y,sv,tv,rv,l,o,f,A⟩:=h;have r:=qd (qcu o (id:=id) (λx e=>by have:=q x.su (by rw[<-f];exact ik e);exact this));generalize vl (l.map Sx.sb) id=P at *;go_enter func44,ntmps44
 go_wp2_with(go_at_call 71;refine be r λw1 u=>?_;have s:=qd u)
 go_ret2
 exact⟨rfl,q9 s⟩
theorem vgw(w:Ao)(F:Nat->Prop)(bb:Nat)(last:Int)(L:List Su)(h:Br w F bb last L)(id:Int)(q:∀x∈L,x.id≠id):
  ut 42 #[Ag (G ⟨bb,0,O⟩),I J id] w (I J 5):=by
 obtain⟨y,sv,tv,rv,l,o,f,A⟩:=h;have r:=qd (qcu o (id:=id) (λx e=>by have:=q x.su (by rw[<-f];exact ik e);exact this));generalize vl (l.map Sx.sb) id=P at *;go_enter func42,ntmps42
 go_wp2_with(go_at_call 71;refine be r λw1 u=>?_;have s:=qd u)
 go_ret;exact⟨rfl,q9 s⟩
theorem BrAt.deleted{u:Ao}{n c:Nat}(h:BrAt w bb last (C (G ⟨g,0,O⟩) (n+1) c) tv rv l)
  (T:SbRow w1 0 (C (G ⟨g,0,O⟩) n c) (qg6 (l.map Sx.sb) i)) (E:w.grownBy w1 (G g)) (B:u=w1.setCell ⟨bb,1,O⟩ (C (G ⟨g,0,O⟩) n c))
  (r:RowsAt w2 u.1.size tv' rv' (tsX (qea l i)) (rsX (qea l i))) (D:Xb u w2) (hp:Prg (tsX (qea l i)) (rsX (qea l i))) :
  BrAt ((w2.setCell ⟨bb,2,O⟩ tv').setCell ⟨bb,3,O⟩ rv') bb last (C (G ⟨g,0,O⟩) n c) tv' rv' (qea l i):=by
 have B8:=E.size;have Z:u.1.size=w1.1.size:=by rw[B];simp
 have D4:=D.size;have U:=h.lt;have s:bb≠g:=λe=>by subst e;exact(vW h.row h.blk ue) rfl
 have Q:w1.1[bb]?=G (Al #[I J last,C (G ⟨g,0,O⟩) (n+1) c,tv,rv] 54 (0,0)):=(E.block bb U (λe=>s (by simpa using e))).trans h.blk;have blkS:=qfw Q (C (G ⟨g,0,O⟩) n c);rw[<-B]at blkS;have N:=(D.block bb ub).trans blkS;have S:=qq2 (qq1 N tv') rv'
 have keep:∀k,k<w.1.size->k≠bb->k≠g->((w2.setCell ⟨bb,2,O⟩ tv').setCell ⟨bb,3,O⟩ rv').1[k]?=w.1[k]?:=λk K q H=>by
  rw[au _ ⟨bb,3,O⟩ _ k (by show k≠bb;exact q),au _ ⟨bb,2,O⟩ _ k (by show k≠bb;exact q),D.block k ub,B,au _ ⟨bb,1,O⟩ _ k (by show k≠bb;exact q)];exact E.block k K (λe=>H (by simpa using e))
 have late:∀k,k≠bb->((w2.setCell ⟨bb,2,O⟩ tv').setCell ⟨bb,3,O⟩ rv').1[k]?=w2.1[k]?:=λk q=>by
  rw[au _ ⟨bb,3,O⟩ _ k (by show k≠bb;exact q),au _ ⟨bb,2,O⟩ _ k (by show k≠bb;exact q)]
 have sub:=qqe l i;have X:g<w.1.size:=(h.row.lt g rfl).2;refine⟨S, ?_,⟨?_, ?_,r.ne⟩,λx f=>?_,h.dis.sublist sub,λx f=>?_,λx f k o=>?_, ?_,bs sub.length_le h.n8,λx f=>h.m6 x (sub.subset f),hp⟩
 .show World.ownsRow _ 0 _ 3 _ ((qea l i).map Sx.sb).length (qr ((qea l i).map Sx.sb))
  rw[qw9];refine qm T λk o=>?_
  have e:g=k:=by simpa [Value.ownBlock]using o
  subst e;rw[late g (λe=>s e.symm),D.block g ub,B,au _ ⟨bb,1,O⟩ _ g (by show g≠bb;exact λe=>s e.symm)]
 exact vt (qm r.ats λk o=>late k (λe=>uu ((r.ats.lt k o).1))) (bt _);exact vt (qm r.ars λk o=>late k (λe=>uu ((r.ars.lt k o).1))) (bt _);have A:=h.hps x (sub.subset f);exact qm A λk o=>keep k (A.lt k o).2 (λe=>by subst e;exact vW A h.blk ue o) (λe=>by subst e;exact zC A h.row ue o rfl)
 obtain⟨K,q,H⟩:=h.cos x (sub.subset f);refine⟨CoAt.keep ui (λk k1 Y=>keep k ub ?_ ?_) ud K,ud,H⟩;intro e;have:=h.out x (sub.subset f) k (Am e);omega;intro e;have:=h.out x (sub.subset f) k (An (Am (by rw[e];rfl)));omega;have q:=(h.cos x (sub.subset f)).2.1;rcases o with e|e|e|e|⟨y,M,e⟩;exact h.out x (sub.subset f) k (Am e);exact h.out x (sub.subset f) k (An (Am e));have:=(r.ats.lt k e).1;right;omega
 have:=(r.ars.lt k e).1;right;omega
 exact h.out x (sub.subset f) k (An (An (An (An ⟨y,sub.subset M,e⟩))));exact h.up.sublist (sub.map _)
theorem PrgS.at(h:PrgS (l.map Sx.su)):Prg (tsX l) (rsX l):=by
 unfold PrgS at h;rw[gR]at h;exact h
theorem qcr(e:k<l.length):(qea l k).length=l.length - 1:=by simp[qea];omega
theorem vgv(w:Ao)(F:Nat->Prop)(bb:Nat)(last:Int)(L:List Su)(h:Br w F bb last L)(i:Nat)(x:Su)(hx:L[i]?=G x)(bX:PrgS (L.take i++L.drop (i+1)))
  (Q:Ending->Ao->Prop) (hQ:∀w',Br w' (upF F w w') bb last (L.take i++L.drop (i+1))->Grow F w w'->Q (Ak (I J 0)) w') :
  ua 42 #[Ag (G ⟨bb,0,O⟩),I J x.id] w Q:=by
 obtain⟨hF,sv,tv,rv,l,f,hL,C3⟩:=h;obtain⟨y,hy,T6⟩:=vnh hL hx;have W9:=(aj.1 hy).1;obtain⟨n,M⟩:∃n,l.length=n+1:=⟨l.length - 1,ub⟩
 obtain⟨g,c,rfl⟩:∃g c,sv=C (G ⟨g,0,O⟩) (n+1) c:=by
  rcases vB f.row with⟨_,h0⟩|⟨g,c,hv⟩;simp at h0;subst h0;simp at W9;exact⟨g,c,by rw[hv,cd,M]⟩
 have Q6:=qh4 f.up (i:=i) (s:=y.sb) (by rw[cm,hy];rfl);have lD:y.sb.id=x.id:=by rw[<-T6];rfl
 rw[lD]at Q6;have FD:=qd (pU bb (l.map Sx.sb) x.id _ w f.cells.2.1 (SbRow.subs f.row) f.up (by rw[cd];exact f.n8));rw[Q6.1,Q6.2]at FD;have S:(qea l i).map Sx.su=L.take i++L.drop (i+1):=by rw[<-hL];simp[qea]
 have rZ:Prg (tsX (qea l i)) (rsX (qea l i)):=PrgS.at (by rw[S];exact bX);have D:bb≠g:=λe=>by subst e;exact(vW f.row f.blk ue) rfl
 have CELLS:Hid (∀w',Xb w w'->Xc w' bb 1 (C (G ⟨g,0,O⟩) (n+1) c)):=qd λw' hb=>(f.below hb).cells.2.1
 have DEL:Hid (∀w',Xb w w'->ua 76 #[C (G ⟨g,0,O⟩) (n+1:Nat) c,I J i,I J ((i:Int)+1)] w' λe w''=>e=Ak (C (G ⟨g,0,O⟩) n c)/\Xc w'' bb 1 (C (G ⟨g,0,O⟩) (n+1) c)/\(Xf w'' bb)/\bb<w''.1.size/\Hid (SbRow w'' 0 (C (G ⟨g,0,O⟩) n c) (qg6 (l.map Sx.sb) i))/\Hid (w'.grownBy w'' (G g))):=qd (by
  intro w' hb;have WH:=f.below hb;refine be (qse (l.map Sx.sb) n i c g (by rw[cd,M]) 0 w' WH.row ub (uu f.n8)) ?_;rintro w''⟨D9,q⟩;have hl:(qg6 (l.map Sx.sb) i).length=n:=by rw[kn (by rw[cd];exact W9),cd,M];rfl
  rw[hl]at D9 |-;obtain⟨_,b1,_,_,b4,b5⟩:=qih ((q.block bb WH.lt (λe=>D (by simpa using e))).trans WH.blk)
  exact⟨rfl,b1,b4,b5,qd D9,qd q⟩)
 have TG:Hid (∀w' w'',Xb w w'->SbRow w'' 0 (C (G ⟨g,0,O⟩) n c) (qg6 (l.map Sx.sb) i)->w'.grownBy w'' (G g)->ua 74 #[C (G ⟨g,0,O⟩) n c] (w''.setCell ⟨bb,1,O⟩ (C (G ⟨g,0,O⟩) n c)) λe A=>∃Z n2 X Y n3 c3,e=Ak (Ai #[C Z n2 X,C Y n3 c3])/\(∃u2 u3,Xc A bb 2 u2/\Xc A bb 3 u3)/\(Xf A bb)/\bb<A.1.size/\Hid (Q (Ak (I J 0)) ((A.setCell ⟨bb,2,O⟩ (C Z n2 X)).setCell ⟨bb,3,O⟩ (C Y n3 c3)))):=qd (by
  intro w1 w2 u D9 q;have N:=f.below u;obtain⟨B,r⟩:=uk (w2.setCell ⟨bb,1,O⟩ (C (G ⟨g,0,O⟩) n c));rw[<-r];have OD:B.1.size=w2.1.size:=by rw[r];simp
  have B8:=u.size;have RQ:=q.size
  have JB:SbRow B 0 (C (G ⟨g,0,O⟩) n c) (qg6 (l.map Sx.sb) i):=by
   rw[r]
   exact qm D9 λk o=>au _ ⟨bb,1,O⟩ _ k (by
    have e:g=k:=by simpa [Value.ownBlock]using o
    show k≠bb
    exact λe'=>D (by rw[<-e',<-e]))
  have keepS:∀k,k<w1.1.size->k≠bb->k≠g->B.1[k]?=w1.1[k]?:=λk h1 h2 h3=>by
   rw[r,au _ ⟨bb,1,O⟩ _ k (by show k≠bb;exact h2)];exact q.block k h1 (λe=>h3 (by simpa using e))
  have A7:(qg6 (l.map Sx.sb) i).length=n:=by rw[kn (by rw[cd];exact W9),cd,M];rfl
  have U4:(yk (qea l i)).length=n:=by unfold yk;rw[cd,qcr W9,M];rfl
  have sub:=qqe l i
  have T:=qbq (qg6 (l.map Sx.sb) i) (yk (qea l i)) (by rw[U4,A7]) (by rw[A7];have:=f.n8;omega) (C (G ⟨g,0,O⟩) n c) B (SbRow.subs JB) (by
   intro k s cc H U;rw[<-qw9,cm]at H;unfold yk at U;rw[cm]at U
   cases hz:(qea l i)[k]? with
   | none=>rw[hz]at H;cases H
   | some z=>
    rw[hz]at H U;simp at H U;subst H U;have AP:=sub.subset (bg hz);obtain⟨q1,q2,q3,q4⟩:=N.cos z AP;refine⟨?_,q3,q4⟩;have q5:CoAt z.lo B.1.size B (Ag z.cp) z.co:=CoAt.keep ub (λk k1 k2=>keepS k ub (λe=>uu (N.out z AP k (Am e))) (λe=>by have:=N.out z AP k (An (Am (by rw[e];rfl)));omega)) ub q1
    exact CoAt.low (bt _) q5)
  refine T.mono ?_;rintro e A⟨tv',rv',rfl,K,E⟩;rw[A7]at K
  have T7:RowsAt A B.1.size tv' rv' (tsX (qea l i)) (rsX (qea l i)):=by
   unfold tsX rsX;rw[qcr W9,M];exact K
  have P9:=E.size;have wR:=N.deleted D9 q r T7 E rZ;obtain⟨Z,X,rfl⟩:=K.ats.form;obtain⟨Y,c3,rfl⟩:=K.ars.form;have EG:=(q.block bb N.lt (λe=>D (by simpa using e))).trans N.blk;have blkS:=qfw EG (C (G ⟨g,0,O⟩) n c);rw[<-r]at blkS;obtain⟨_,_,b2,b3,b4,b5⟩:=qih ((E.block bb (uu f.lt)).trans blkS);refine⟨Z,_,X,Y,_,c3,rfl,⟨_,_,b2,b3⟩,b4,b5,qd (hQ _ ⟨?_,_,_,_,qea l i,wR,S, ?_⟩ ?_)⟩;intro k o;rcases o with o|o;have:=hF k o;simp;omega;exact o.2;intro k o;have A1:=wR.foot_lt o
  by_cases hkw:w.1.size<=k
  exact An ⟨hkw,A1⟩
  left
  apply C3;rcases o with(e|e|e|e|⟨z,hz,e⟩)|⟨z,hz,e⟩;exact Am (Am e);exact Am (An (Am e));have:=(K.ats.lt k e).1;omega;have:=(K.ars.lt k e).1;omega;exact Am (An (An (An (An ⟨z,sub.subset hz,e⟩))));exact An ⟨z,sub.subset hz,e⟩;refine⟨E.os.trans ?_,E.tape.trans ?_,E.output.trans ?_,ud,λk h1 h2=>?_⟩;rw[r];exact q.os.trans u.os;rw[r];exact q.tape.trans u.tape;rw[r];exact q.output.trans u.output;have V9:k≠bb:=λe=>h2 (C3 k (Am (Am e)))
  have hkg:k≠g:=λe=>h2 (C3 k (Am (An (Am (by rw[e];rfl)))))
  rw[au _ ⟨bb,3,O⟩ _ k (by show k≠bb;exact V9),au _ ⟨bb,2,O⟩ _ k (by show k≠bb;exact V9),E.block k ub,keepS k ub V9 hkg]
  exact u.block k h1)
 have hi8:l.length<=8:=f.n8;have iw:(i:Int)<=1000:=ub;go_enter func42,ntmps42
 go_wp2_with(first|(go_at_call 71;refine be FD λw1 u=>?_;have B1:=qd u;have c1:=q9 CELLS w1 u)|(go_at_call 76;refine be (DEL _ B1) ?_;rintro w2⟨X,f2,l2,R2,G2⟩)|(go_at_call 74;refine(TG w1 w2 B1 R2 G2).mono ?_;rintro e A⟨Z,n2,cc2,Y,n3,cc3,rfl,⟨u2,u3,d2,d3⟩,f3,l3,E3⟩))
 exact q9 E3
def Rep(ts:List Tm):Nat->Co->Prop
 | i,.leaf p=>ts[i]?=G (zK p 0 0)
 | i,.un p x=>∃l,Rep ts l x/\ts[i]?=G (zK p l 0)
 | i,.bin p x y=>∃l r,Rep ts l x/\Rep ts r y/\ts[i]?=G (zK p l r)
def SubC:Co->Co->Prop
 | .leaf p,d=>d=.leaf p
 | .un p x,d=>d=.un p x\/SubC x d
 | .bin p x y,d=>d=.bin p x y\/SubC x d\/SubC y d
theorem qna{t:Tm}(h:ts[i]?=G t):(ts++us)[i]?=G t:=by
 rw[cg (aj.1 h).1];exact h
theorem Rep.more:∀{c:Co} {i:Nat},Rep ts i c->Rep (ts++us) i c:=by
 intro c
 induction c with
 | leaf p=>intro i h;exact qna h
 | un p x ih=>rintro i⟨l,f,e⟩;exact⟨l,ih f,qna e⟩
 | bin p x y ihx ihy=>rintro i⟨l,r,f,e,o⟩;exact⟨l,r,ihx f,ihy e,qna o⟩
theorem Rep.lt{c:Co}(h:Rep ts i c):i<ts.length:=by
 cases c with
 | leaf p=>exact(aj.1 h).1
 | un p x=>obtain⟨_,_,h⟩:=h;exact(aj.1 h).1
 | bin p x y=>obtain⟨_,_,_,_,h⟩:=h;exact(aj.1 h).1
theorem Rep.sub:∀{c d:Co} {i:Nat},Rep ts i c->SubC c d->∃j,Rep ts j d:=by
 intro c
 induction c with
 | leaf p=>rintro d i h rfl;exact⟨i,h⟩
 | un p x ih=>
  intro d i h e;rcases e with rfl|e;exact⟨i,h⟩;obtain⟨l,f,_⟩:=h;exact ih f e
 | bin p x y ihx ihy=>
  intro d i h e;rcases e with rfl|e|e;exact⟨i,h⟩;obtain⟨l,r,f,o,_⟩:=h;exact ihx f e;obtain⟨l,r,f,o,_⟩:=h;exact ihy o e
theorem qgv(h:ts.Nodup){t:Tm}(u:ts[i]?=G t)(s:ts[j]?=G t):i=j:=by
 obtain⟨q,r⟩:=aj.1 u;obtain⟨f,o⟩:=aj.1 s;have hp:=ed.1 h;rcases Nat.lt_trichotomy i j with e|rfl|e;exact absurd (r.trans o.symm) (hp i j q f e);rfl;exact absurd (o.trans r.symm) (hp j i f q e)
theorem Rep.inj(e:ts.Nodup):∀{c:Co} {i j:Nat},Rep ts i c->Rep ts j c->i=j:=by
 intro c
 induction c with
 | leaf p=>intro i j q o;exact qgv e q o
 | un p x ih=>
  rintro i j⟨l,h,f⟩ ⟨l',b1,b2⟩;obtain rfl:=ih h b1;exact qgv e f b2
 | bin p x y ihx ihy=>
  rintro i j⟨l,r,h,f,u⟩ ⟨l',A,b1,b2,s⟩;obtain rfl:=ihx h b1;obtain rfl:=ihy f b2;exact qgv e u s
theorem xS{p q:CP}(hp:vbr p)(hq:vbr q){l r l' f:Nat}(h:zK p l r=zK q l' f):p=q/\l=l'/\r=f:=by
 obtain⟨s,H,ps,I⟩:=p;obtain⟨o,E,D,G⟩:=q;simp only[zK,Tm.mk.injEq]at h;obtain⟨J,C,B,A,y,u⟩:=h
 have e:s=o:=by
  have a:0<=s:=hp.1.1;have b:0<=o:=hq.1.1;omega
 subst e A y u;exact⟨rfl,C,B⟩
theorem qt0{op:Int}:(js op=true->unB op=false/\qrz op=false)/\(unB op=true->js op=false/\qrz op=false):=by
 unfold qrz;refine⟨λh=>?_,λh=>?_⟩;refine⟨?_,by rw[h];rfl⟩;unfold js at h;unfold unB;simp only[ff,ew]at h;rcases h with(((h|h)|h)|h)|h<;>rw[h]<;>decide
 refine⟨?_,by rw[h];simp⟩;unfold unB at h;unfold js;simp only[ff,ew]at h;rcases h with(h|h)|h<;>rw[h]<;>decide
theorem Rep.func:∀{c d:Co} {i:Nat},qbi c->WfC c->qbi d->WfC d->Rep ts i c->Rep ts i d->c=d:=by
 intro c
 induction c with
 | leaf p=>
  intro d i o wc h s A f
  cases d with
  | leaf q=>
   have e:=xS o h (Option.some.inj (A.symm.trans f));rw[e.1]
  | un q y=>
   obtain⟨l,_,f⟩:=f;have e:=xS o h.1 (Option.some.inj (A.symm.trans f));have:=(qt0.1 wc).1;rw[e.1]at this;rw[s.1]at this;cases this
  | bin q y z=>
   obtain⟨l,r,_,_,f⟩:=f;have e:=xS o h.1 (Option.some.inj (A.symm.trans f));have:=(qt0.1 wc).2;rw[e.1]at this;rw[s.1]at this;cases this
 | un p x ih=>
  intro d i o wc h s A f;obtain⟨l,D,B⟩:=A
  cases d with
  | leaf q=>
   have e:=xS o.1 h (Option.some.inj (B.symm.trans f));have:=(qt0.1 s).1;rw[<-e.1,wc.1]at this;cases this
  | un q y=>
   obtain⟨l',b1,b2⟩:=f;have e:=xS o.1 h.1 (Option.some.inj (B.symm.trans b2));obtain⟨rfl,rfl,_⟩:=e;rw[ih o.2 wc.2 h.2 s.2 D b1]
  | bin q y z=>
   obtain⟨l',E,_,_,b2⟩:=f;have e:=xS o.1 h.1 (Option.some.inj (B.symm.trans b2));have:=(qt0.2 wc.1).2;rw[e.1,s.1]at this;cases this
 | bin p x y ihx ihy=>
  intro d i o wc h s A f;obtain⟨l,r,D,B,C⟩:=A
  cases d with
  | leaf q=>
   have e:=xS o.1 h (Option.some.inj (C.symm.trans f));have:=(qt0.1 s).2;rw[<-e.1,wc.1]at this;cases this
  | un q z=>
   obtain⟨l',_,b2⟩:=f;have e:=xS o.1 h.1 (Option.some.inj (C.symm.trans b2));have:=(qt0.2 s.1).2;rw[<-e.1,wc.1]at this;cases this
  | bin q z u=>
   obtain⟨l',E,b1,b2,G⟩:=f;have e:=xS o.1 h.1 (Option.some.inj (C.symm.trans G));obtain⟨rfl,rfl,rfl⟩:=e;rw[ihx o.2.1 wc.2.1 h.2.1 s.2.1 D b1,ihy o.2.2 wc.2.2 h.2.2 s.2.2 B b2]
theorem vp4:∀(m n:Nat) (f:Nat->Nat),(∀i,i<n->f i<m)->(∀i j,i<n->j<n->f i=f j->i=j)->n<=m:=by
 intro m
 induction m with
 | zero=>
  intro n f h _
  cases n with
  | zero=>exact ui
  | succ n=>exact absurd (h 0 ub) ub
 | succ m ih=>
  intro n f h o
  cases n with
  | zero=>omega
  | succ k=>
   have s:=h k ub
   have:=ih k (λi=>if f i=m then f k else f i) (λi q=>by
    by_cases e:f i=m
    .simp only[e,if_true]
     have:f k≠m:=λr=>uu (o i k ub ub (e.trans r.symm))
     omega
    .simp only[e,if_false]
     have:=h i ub
     omega) (λi j q u e=>by
    by_cases e1:f i=m<;>by_cases e2:f j=m
    exact o i j ub ub (e1.trans e2.symm);simp only[e1,e2,if_true,if_false]at e;have:=o k j ub ub e;omega;simp only[e1,e2,if_true,if_false]at e;have:=o i k ub ub e;omega;simp only[e1,e2,if_false]at e
    exact o i j ub ub e)
   omega
structure Full(ts:List Tm)(P:Co->Prop):Prop where
 nodup:ts.Nodup
 all:∀i,i<ts.length->∃d,P d/\Rep ts i d
theorem qh8(h:Full ts P){t:Tm}{d:Co}(hd:Rep (pC ts t).1 (pC ts t).2 d):Full (pC ts t).1 (λc=>P c\/c=d):=by
 unfold pC at hd |-
 cases hw:j8 ts t with
 | some i=>exact⟨h.nodup,λi f=>by obtain⟨e,q,o⟩:=h.all i f;exact⟨e,Am q,o⟩⟩
 | none=>
  rw[hw]at hd
  have y:∀x∈ts,x≠t:=by
   unfold j8 at hw;rw[sg]at hw;intro x s e;have:=hw x s;rw[e,(yX t t).2 rfl]at this;cases this
  refine⟨?_,λi f=>?_⟩
  .show(ts++[t]).Nodup
   unfold List.Nodup;rw[iy];exact⟨h.nodup,List.pairwise_singleton _ _,λa u b r=>by simp at r;subst r;exact y a u⟩
  by_cases hl:i<ts.length
  obtain⟨e,q,o⟩:=h.all i hl;exact⟨e,Am q,o.more⟩
  have e:i=ts.length:=by
   have:i<(ts++[t]).length:=f;simp at this;omega
  subst e;exact⟨d,An rfl,hd⟩
theorem qp0(ts:List Tm)(t:Tm):(pC ts t).1[(pC ts t).2]?=G t/\∃us,(pC ts t).1=ts++us:=by
 unfold pC
 cases hw:j8 ts t with
 | some i=>
  refine⟨?_,[],uc⟩;unfold j8 at hw;obtain⟨f,e,_⟩:=ib.1 hw;rw[aj];exact⟨f,(yX _ _).1 e⟩
 | none=>exact⟨uc,[t],rfl⟩
theorem gh:∀(c:Co) (ts:List Tm),Rep (qC ts c).1 (qC ts c).2 c/\∃us,(qC ts c).1=ts++us:=by
 intro c
 induction c with
 | leaf p=>intro ts;exact qp0 ts (zK p 0 0)
 | un p x ih=>
  intro ts;obtain⟨o,us,h⟩:=ih ts;obtain⟨f,vs,e⟩:=qp0 (qC ts x).1 (zK p (qC ts x).2 0);refine⟨⟨(qC ts x).2, ?_,f⟩,us++vs, ?_⟩
  .show Rep (pC (qC ts x).1 (zK p (qC ts x).2 0)).1 _ _
   rw[e];exact o.more
  show(pC (qC ts x).1 (zK p (qC ts x).2 0)).1=_;rw[e,h,bu]
 | bin p x y ihx ihy=>
  intro ts;obtain⟨o,us,h⟩:=ihx ts;obtain⟨k1,vs,q⟩:=ihy (qC ts x).1;obtain⟨f,r,e⟩:=qp0 (qC (qC ts x).1 y).1 (zK p (qC ts x).2 (qC (qC ts x).1 y).2);refine⟨⟨(qC ts x).2,(qC (qC ts x).1 y).2, ?_, ?_,f⟩,us++vs++r, ?_⟩
  .show Rep (pC (qC (qC ts x).1 y).1 (zK p (qC ts x).2 (qC (qC ts x).1 y).2)).1 _ _
   rw[e];refine Rep.more ?_;rw[q];exact o.more
  .show Rep (pC (qC (qC ts x).1 y).1 (zK p (qC ts x).2 (qC (qC ts x).1 y).2)).1 _ _
   rw[e];exact k1.more
  show(pC (qC (qC ts x).1 y).1 (zK p (qC ts x).2 (qC (qC ts x).1 y).2)).1=_;rw[e,q,h];simp
theorem Full.weak{Q:Co->Prop}(h:Full ts P)(e:∀c,P c->Q c):Full ts Q:=⟨h.nodup,λi f=>by obtain⟨d,q,o⟩:=h.all i f;exact⟨d,e d q,o⟩⟩
theorem qtc:∀(c:Co) (ts:List Tm) (P:Co->Prop),Full ts P->Full (qC ts c).1 (λd=>P d\/SubC c d):=by
 intro c
 induction c with
 | leaf p=>
  intro ts P h;exact(qh8 h (t:=zK p 0 0) (d:=.leaf p) (gh (.leaf p) ts).1).weak λd hd=>hd
 | un p x ih=>
  intro ts P h;have e:=ih ts P h;refine(qh8 e (t:=zK p (qC ts x).2 0) (d:=.un p x) (gh (.un p x) ts).1).weak λd hd=>?_
  rcases hd with(hd|hd)|hd;exact Am hd;exact An (An hd);exact An (Am hd)
 | bin p x y ihx ihy=>
  intro ts P h;have e:=ihy _ _ (ihx ts P h);refine(qh8 e (t:=zK p (qC ts x).2 (qC (qC ts x).1 y).2) (d:=.bin p x y) (gh (.bin p x y) ts).1).weak λd hd=>?_
  rcases hd with((hd|hd)|hd)|hd;exact Am hd;exact An (An (Am hd));exact An (An (An hd));exact An (Am hd)
theorem qid(cs:List Co):∀k,k<=cs.length->Full (jE cs k).1 (λd=>∃j c,j<k/\cs[j]?=G c/\SubC c d)/\∀j c,j<k->cs[j]?=G c->∃i,Rep (jE cs k).1 i c:=by
 intro k
 induction k with
 | zero=>intro _;exact⟨⟨List.Pairwise.nil,λi o=>by simp[jE]at o⟩,λj c r=>ub⟩
 | succ k ih=>
  intro C;obtain⟨B,A⟩:=ih ub;obtain⟨c,q⟩:∃c,cs[k]?=G c:=⟨_,ag ub⟩;have e:(jE cs (k+1)).1=(qC (jE cs k).1 c).1:=by rw[jE,bi,q];rfl
  rw[e];obtain⟨y,us,u⟩:=gh c (jE cs k).1;refine⟨(qtc c _ _ B).weak λd hd=>?_,λj x r f=>?_⟩;rcases hd with⟨j,x,r,f,s⟩|hd;exact⟨j,x,ub,f,s⟩;exact⟨k,c,ub,q,hd⟩
  by_cases ej:j=k
  subst ej;rw[q]at f;obtain rfl:=Option.some.inj f;exact⟨_,y⟩;obtain⟨i,o⟩:=A j x ub f;rw[u];exact⟨i,o.more⟩
theorem SubC.fld:∀{c d:Co},qbi c->WfC c->SubC c d->qbi d/\WfC d:=by
 intro c
 induction c with
 | leaf p=>rintro d h f rfl;exact⟨h,f⟩
 | un p x ih=>
  intro d h f e;rcases e with rfl|e;exact⟨h,f⟩;exact ih h.2 f.2 e
 | bin p x y ihx ihy=>
  intro d h f e;rcases e with rfl|e|e;exact⟨h,f⟩;exact ihx h.2.1 f.2.1 e;exact ihy h.2.2 f.2.2 e
theorem vgs{cs':List Co}(G:∀c∈cs,CoreOk c)(D:∀c∈cs',c∈cs):(jE cs' cs'.length).1.length<=(jE cs cs.length).1.length:=by
 obtain⟨u,_⟩:=qid cs' cs'.length ui;obtain⟨Y,J⟩:=qid cs cs.length ui
 have key:∀i,∃j,i<(jE cs' cs'.length).1.length->∃d,Rep (jE cs' cs'.length).1 i d/\Rep (jE cs cs.length).1 j d/\qbi d/\WfC d:=by
  intro i
  by_cases f:i<(jE cs' cs'.length).1.length
  obtain⟨d,⟨k,c,X,H,A⟩,E⟩:=u.all i f;have s:=D c (bg H);obtain⟨C,B⟩:=dd s;obtain⟨U,K⟩:=J C c (aj.1 B).1 B;obtain⟨j,o⟩:=K.sub A;have r:=G c s;exact⟨j,λ_=>⟨d,E,o,A.fld r.fld r.wf⟩⟩;exact⟨0,λh=>absurd h f⟩
 have q:=λi=>Classical.choose_spec (key i)
 refine vp4 _ _ (λi=>Classical.choose (key i)) (λi f=>?_) (λi j f o e=>?_);obtain⟨d,_,I,_⟩:=q i f;exact I.lt;obtain⟨d,T,y,S,Q⟩:=q i f;obtain⟨Z,b1,b2,O,N⟩:=q j o;have M:Classical.choose (key i)=Classical.choose (key j):=e;rw[M]at y;obtain rfl:=Rep.func S Q O N y b2;exact Rep.inj u.nodup T b1
theorem qic(q:∀c∈cs,CoreOk c):∀k,k<=cs.length->qrt (jE cs k).1:=by
 intro k
 induction k with
 | zero=>intro _ i t h;simp[jE]at h
 | succ k ih=>
  intro r;obtain⟨c,o⟩:∃c,cs[k]?=G c:=⟨_,ag ub⟩;have e:(jE cs (k+1)).1=(qC (jE cs k).1 c).1:=by rw[jE,bi,o];rfl
  rw[e];have f:=q c (bg o);exact qsl c _ f.fld f.wf (ih ub)
theorem qqy(o:∀x∈L,CoreOk x.co)(r:L.length<=8)(s:(jt L).1.length<=80):PrgS L:=by
 have h:(L.map Su.co).length=L.length:=cd _
 have hg':∀c∈L.map Su.co,CoreOk c:=λc q=>by
  obtain⟨x,f,rfl⟩:=eg.1 q;exact o x f
 have e:=zW (L.map Su.co) L.length;refine⟨s, ?_,qic hg' L.length (by rw[h];exact ui),e.2⟩;show(jE (L.map Su.co) L.length).2.length<=8;rw[e.1];exact r
theorem qh6{L':List Su}(r:∀x∈L,CoreOk x.co)(q:∀x∈L',∃y∈L,x.co=y.co):(jt L').1.length<=(jt L).1.length:=by
 have:=vgs (cs:=L.map Su.co) (cs':=L'.map Su.co) (λc h=>by
  obtain⟨x,f,rfl⟩:=eg.1 h
  exact r x f) (λc h=>by
  obtain⟨x,f,rfl⟩:=eg.1 h;obtain⟨y,o,e⟩:=q x f;rw[e]
  exact ik o)
 rw[cd,cd]at this;exact this
def ph(l:List Sx)(k:Nat)(x:Sx):List Sx:=l.take k++x::l.drop k
def qgi(L:List Su)(k:Nat)(x:Su):List Su:=L.take k++x::L.drop k
def xu(L:List Su)(id:Int):Nat:=L.countP λs=>decide (s.id<id)
theorem qng(l:List Sx)(k:Nat)(x:Sx):(ph l k x).map Sx.sb=gX (l.map Sx.sb) k x.sb:=by simp[ph,gX]
theorem vjv(l:List Sx)(k:Nat)(x:Sx):(ph l k x).map Sx.su=qgi (l.map Sx.su) k x.su:=by simp[ph,qgi]
theorem py(l:List Sx)(k:Nat)(x:Sx):(ph l k x).length=l.length+1:=by simp[ph];omega
theorem yo{x y:Sx}(h:y∈ph l k x):y=x\/y∈l:=by
 unfold ph at h;rcases cr.1 h with h|h;exact An (nw h);rcases eo.1 h with h|h;exact Am h;exact An (ln h)
theorem qyi(l:List Sx)(id:Int):vl (l.map Sx.sb) id=xu (l.map Sx.su) id:=by
 unfold vl xu;rw[List.countP_map,List.countP_map];rfl
theorem jF{size n:Nat}{e:TypeId}{xs:List Ap}(h:w.ownsRow base e size v n xs):∃a c,v=C a n c:=by
 rcases vB h with⟨rfl,rfl⟩|⟨g,c,rfl⟩;exact⟨_,_,rfl⟩;exact⟨_,_,rfl⟩
theorem qtb(l:List Sb)(id:Int):vl l id<=l.length:=List.countP_le_length
theorem qtm{l:List Sb}(h:xD l)(s:Sb)(A:∀t∈l,t.id≠s.id):xD (gX l (vl l s.id) s):=by
 have q:=km h s.id;unfold xD gX
 have y:∀t∈l.take (vl l s.id),t.id<s.id:=by
  intro t f;obtain⟨i,e⟩:=dd f;rw[ll]at e
  split at e
  rename_i B;exact(q i t e).2 B;cases e
 have u:∀t∈l.drop (vl l s.id),s.id<t.id:=by
  intro t f;obtain⟨i,e⟩:=dd f;rw[io]at e;have:=q _ t e;have C:=A t (ln f)
  by_cases h4:t.id<s.id
  have:=this.1 h4;omega;omega
 rw[iy];refine⟨h.sublist (List.take_sublist _ _),mf.2 ⟨u,h.sublist (List.drop_sublist _ _)⟩,λa r b o=>?_⟩;rcases eo.1 o with rfl|o;exact y a r;exact Int.lt_trans (y a r) (u b o)
theorem BrAt.inserted{o:Ap}(h:BrAt w bb last sv tv rv l){x:Sx}(D:Xb w W)
  (K:SbRow W w.1.size o (gX (l.map Sx.sb) k x.sb)) (s:RowsAt W w.1.size tv' rv' (tsX (ph l k x)) (rsX (ph l k x)))
  (X:x.row=O) (S:x.cap=0) (E:x.ms=[]) (N:CoAt x.lo x.hi W (Ag x.cp) x.co) (eP:w.1.size<=x.lo) (hhi:x.hi<=W.1.size) (H:qed x.co) (V4:yZ x.co<=250000000)
  (Y:∀k,o.ownBlock=G k\/tv'.ownBlock=G k\/rv'.ownBlock=G k->k<x.lo\/x.hi<=k)
  (Q:xD (gX (l.map Sx.sb) k x.sb)) (h8:l.length<8) (hp:Prg (tsX (ph l k x)) (rsX (ph l k x))) :
  BrAt (((W.setCell ⟨bb,1,O⟩ o).setCell ⟨bb,2,O⟩ tv').setCell ⟨bb,3,O⟩ rv') bb last o tv' rv' (ph l k x):=by
 have hz:=D.size;have A1:=h.lt;have EF:=qq2 (qq1 (qfw ((D.block bb A1).trans h.blk) o) tv') rv'
 have late:∀k,k≠bb->(((W.setCell ⟨bb,1,O⟩ o).setCell ⟨bb,2,O⟩ tv').setCell ⟨bb,3,O⟩ rv').1[k]?=W.1[k]?:=λk B=>by
  rw[au _ ⟨bb,3,O⟩ _ k (by show k≠bb;exact B),au _ ⟨bb,2,O⟩ _ k (by show k≠bb;exact B),au _ ⟨bb,1,O⟩ _ k (by show k≠bb;exact B)]
 have A:x.hv=C O 0 0:=by unfold Sx.hv;rw[X,S,E];rfl
 have I:∀k,x.hv.ownBlock≠G k:=λk=>by rw[A];simp[Value.ownBlock]
 refine⟨EF, ?_,⟨?_, ?_,s.ne⟩,λy f=>?_, ?_,λy f=>?_,λy f q Z=>?_, ?_,by rw[py];omega,λy f=>?_,hp⟩
 .show World.ownsRow _ 0 _ 3 _ ((ph l k x).map Sx.sb).length (qr ((ph l k x).map Sx.sb))
  rw[qng];exact vt (qm K λj r=>late j (λe=>uu ((K.lt j r).1))) (bt _)
 exact vt (qm s.ats λj r=>late j (λe=>uu ((s.ats.lt j r).1))) (bt _);exact vt (qm s.ars λj r=>late j (λe=>uu ((s.ars.lt j r).1))) (bt _);rcases yo f with rfl|f;rw[A,E];exact dy _ _ _ _;have hq:=h.hps y f
 exact qm hq λj r=>by
  have OR:=(hq.lt j r).2;rw[late j (λe=>by subst e;exact vW hq h.blk ue r),D.block j OR]
 unfold ph;rw[iy];refine⟨h.dis.sublist (List.take_sublist _ _),mf.2 ⟨λy _ j r=>absurd r (I j),h.dis.sublist (List.drop_sublist _ _)⟩,λa ha b J=>?_⟩;rcases eo.1 J with rfl|J;exact λj _=>I j
 have hd:=h.dis;rw[<-fh k l,iy]at hd;exact hd.2.2 a ha b J;rcases yo f with rfl|f;refine⟨CoAt.keep ui (λj U T=>late j ub) uc N,ud,H,V4⟩;obtain⟨h1,B,h3⟩:=h.cos y f;refine⟨CoAt.keep ui (λj U T=>?_) ud h1,ud,h3⟩;rw[late j (λe=>uu (h.out y f j (Am e))),D.block j ub]
 have M:q=bb\/(∃z∈l,z.hv.ownBlock=G q)\/(w.1.size<=q/\(o.ownBlock=G q\/tv'.ownBlock=G q\/rv'.ownBlock=G q)):=by
  rcases Z with e|e|e|e|⟨z,u,e⟩;exact Am e;exact An (An ⟨(K.lt q e).1,Am e⟩);exact An (An ⟨(s.ats.lt q e).1,An (Am e)⟩);exact An (An ⟨(s.ars.lt q e).1,An (An e)⟩);rcases yo u with rfl|u;exact absurd e (I q);exact An (Am ⟨z,u,e⟩)
 rcases yo f with rfl|f;rcases M with e|⟨z,u,e⟩|⟨_,e⟩
 left;omega
 have:=((h.hps z u).lt q e).2
 left;omega
 exact Y q e;have B:=(h.cos y f).2.1;rcases M with e|⟨z,u,e⟩|⟨e,_⟩;exact h.out y f q (Am e);exact h.out y f q (An (An (An (An ⟨z,u,e⟩))))
 right;omega
 rw[qng];exact Q;rcases yo f with rfl|f;rw[E];exact bt _;exact h.m6 y f
structure SbReady(w:Ao)(ls:List Sb)(P n:Nat)(id:Int)(c:Co)(W:Ao)(g cap:Nat)(x:Sx):Prop where
 below:Below w.1.size w W
 row:SbRow W w.1.size (C (G ⟨g,0,O⟩) (n+1) cap) (gX ls P x.sb)
 core:CoAt x.lo x.hi W (Ag x.cp) c
 lo:w.1.size<=x.lo
 hi:x.hi<=W.1.size
 out:g<x.lo\/x.hi<=g
 eid:x.id=id
 eco:x.co=c
 e0:x.row=O
 e1:x.cap=0
 e2:x.ms=[]
theorem SbReady.more{f:List Sb}{P n:Nat}{c:Co}{cap:Nat}{x:Sx}(h:SbReady w f P n id c W g cap x)(e:Xb W W'):SbReady w f P n id c W' g cap x:=
 ⟨qg h.below e,qm h.row λk o=>e.block k (h.row.lt k o).2,CoAt.keep ui (λk _ q=>e.block k (uu h.hi)) e.size h.core,h.lo,bs h.hi e.size,h.out,h.eid,h.eco,h.e0,h.e1,h.e2⟩
theorem vi4(w:Ao)(F:Nat->Prop)(bb:Nat)(last:Int)(L:List Su)(h:Br w F bb last L)(id:Int)(G1:∀x∈L,x.id≠id)(s:tu)(c:Co)(AW:vqw s c)(h8:L.length<8)(hL:LibOk w)
  (bX:(jt (qgi L (xu L id) ⟨id,c,[]⟩)).1.length<=80->PrgS (qgi L (xu L id) ⟨id,c,[]⟩))
  (Q:Ending->Ao->Prop) (hQ:(jt (qgi L (xu L id) ⟨id,c,[]⟩)).1.length<=80->∀w',Br w' (upF F w w') bb last (qgi L (xu L id) ⟨id,c,[]⟩)->Grow F w w'->Q (Ak (Aj #[I J 0,I J 0])) w') (hT:80<(jt (qgi L (xu L id) ⟨id,c,[]⟩)).1.length->∀w',Xb w w'->Q (Ak (Aj #[I J 8,I J 0])) w') :
  ua 40 #[Ag (G ⟨bb,0,O⟩),I J id,Y (BS s)] w Q:=by
 obtain⟨hF,sv,tv,rv,l,N,DR,C3⟩:=h;obtain⟨t,J2,wK,mT,R9,I2,uX⟩:=AW;have U6:∀x∈l,x.id≠id:=λx A=>by have:=G1 x.su (by rw[<-DR];exact ik A);exact this
 have aQ:l.length=L.length:=by rw[<-DR,cd]
 have FD:=qd (qcu N U6);obtain⟨P,hP⟩:=it (vl (l.map Sx.sb) id);have hPS:xu L id=P:=by rw[<-hP,<-DR,qyi]
 have LO:P<=l.length:=by have:=qtb (l.map Sx.sb) id;rw[cd,hP]at this;exact this
 rw[hP]at FD;rw[hPS]at bX hQ hT
 obtain⟨a,cp,rfl⟩:∃a cp,sv=C a l.length cp:=by
  obtain⟨a,cp,e⟩:=jF N.row;exact⟨a,cp,by rw[e,cd]⟩
 obtain⟨n,M⟩:=it l.length;have fR:n<8:=ub;have RD:Hid (∀w',Xb w w'->ua 49 #[Y (BS s)] w' (qc1 w' (.ok t))):=qd λw' hb=>J2 ▸ qhg (BS s) w' (hL.below hb ui).err (by rw[qJ];exact uX)
 have CELLS:Hid (∀w',Xb w w'->Xc w' bb 1 (C a n cp)):=qd λw' hb=>by rw[<-M];exact(N.below hb).cells.2.1
 have CL:Hid (∀w',Xb w w'->ua 73 #[C a n cp] w' λe w''=>∃E D,e=Ak (C E n D)/\Hid (SbRow w'' w'.1.size (C E n D) (l.map Sx.sb))/\Hid (Xb w' w'')):=qd (by
  intro w' hb;have hr:=(N.below hb).row;rw[M]at hr;refine(qmj (l.map Sx.sb) (by rw[cd];omega) _ 0 w' hr).mono ?_;rintro e w''⟨v',rfl,h1,B⟩;obtain⟨E,D,e3⟩:=jF h1;rw[cd,M]at e3;subst e3
  exact⟨E,D,rfl,qd h1,qd B⟩)
 have CO:Hid (∀(lo:Nat) (U U':Ao) (v:Ap),Xb w U->Xb U U'->IsNode lo U v t->ua 55 #[v] U' (gW U'.1.size U' c)):=qd λlo U U' v u hU' I5=>wK ▸ qw5 lo t mT (qt7 J2) U'.1.size U' v ui (hL.below (qg u hU') ui) (I5.above ⟨hU'.size,λk _ B=>hU'.block k B⟩)
 have INS:Hid (∀(w2 H o:Ao) (E:Option Addr) (D b4:Nat),Xb w w2->Xb w2 H->SbRow H w2.1.size (C E n D) (l.map Sx.sb)->Xb H o->CoAt H.1.size o.1.size o (Ag (G ⟨b4,0,O⟩)) c ->
   ua 72 #[C E n D,I J P,C (G ⟨o.1.size,0,O⟩) 1 1] (o.alloc (Al #[I J id,Ag (G ⟨b4,0,O⟩),C O 0 0] 130)) λe W=>∃g cap x,e=Ak (C (G ⟨g,0,O⟩) (n+1) cap)/\Hid (SbReady w (l.map Sx.sb) P n id c W g cap x)):=qd (by
  intro w2 H o E D b4 A3 D5 D8 Z GH;obtain⟨x,A⟩:=uk (⟨id,G ⟨b4,0,O⟩,H.1.size,o.1.size,c,O,0,[]⟩:Sx);have D4:=A3.size;have P9:=D5.size;have RR:=Z.size;obtain⟨w5,dQ⟩:=uk (o.alloc (Al #[I J id,Ag (G ⟨b4,0,O⟩),C O 0 0] 130));have nE:w5.1.size=o.1.size+1:=by rw[dQ];simp
  have aU:Xb o w5:=by rw[dQ];exact(uj).alloc ui _
  have cK:SbRow w5 w2.1.size (C E n D) (l.map Sx.sb):=qm D8 λk r=>by
   have:=(D8.lt k r).2;rw[aU.block k ub,Z.block k ub]
  have TL:(C E n D).ownBlock≠G o.1.size:=λe=>uu ((D8.lt _ e).2)
  rw[<-dQ];refine(qsv (l.map Sx.sb) x.sb P (by rw[cd];exact LO) (by rw[cd];omega) _ w2.1.size o.1.size w5 cK TL (by rw[dQ,A];exact heap_alloc_new o _) ub).mono ?_;rintro e W⟨g,cap,rfl,h1,B,h3⟩;rw[xa,cd,M]at h1 |-;have AQ:=B.size
  have keep:∀k,H.1.size<=k->k<o.1.size->W.1[k]?=o.1[k]?:=λk k1 k2=>by
   rw[B.block k ub (λe=>uu ((D8.lt _ e.symm).2)),aU.block k k2]
  refine⟨g,cap,x,rfl,qd ⟨⟨?_, ?_, ?_,ub,λk r=>?_⟩,vt h1 ub, ?_, ?_, ?_, ?_,by rw[A],by rw[A],by rw[A],by rw[A],by rw[A]⟩⟩
  .exact B.os.trans (aU.os.trans (Z.os.trans (D5.os.trans A3.os)))
  .exact B.tape.trans (aU.tape.trans (Z.tape.trans (D5.tape.trans A3.tape)))
  .exact B.output.trans (aU.output.trans (Z.output.trans (D5.output.trans A3.output)))
  .rw[B.block k ub (λe=>uu ((D8.lt _ e.symm).1)),aU.block k ub,Z.block k ub,D5.block k ub,A3.block k r]
  .rw[A]
   exact CoAt.keep ui keep ub GH
  .rw[A];exact bs D4 P9
  .rw[A];show o.1.size<=_;omega
  .rw[A]
   show g<H.1.size\/o.1.size<=g;rcases h3 with e|e
   .left;exact(D8.lt _ e).2
   .right;omega)
 have TG:Hid (∀(W:Ao) (g cap:Nat) (x:Sx),SbReady w (l.map Sx.sb) P n id c W g cap x->ua 74 #[C (G ⟨g,0,O⟩) (n+1) cap] W λe W'=>∃S n7 c7 a8 n8 c8,e=Ak (Ai #[C S n7 c7,C a8 n8 c8])/\((n7<=80/\Hid (∀U,Xb W' U->Xc U bb 1 (C a n cp)/\(∃u2 u3,Xc U bb 2 u2/\Xc U bb 3 u3)/\(Xf U bb)/\bb<U.1.size/\Hid (Q (Ak (Aj #[I J 0,I J 0])) (((U.setCell ⟨bb,1,O⟩ (C (G ⟨g,0,O⟩) (n+1) cap)).setCell ⟨bb,2,O⟩ (C S n7 c7)).setCell ⟨bb,3,O⟩ (C a8 n8 c8)))))\/(80<n7/\Hid (∀U,Xb W' U->Hid (Q (Ak (Aj #[I J 8,I J 0])) U))))):=qd (by
  intro W g cap x f;have A7:(gX (l.map Sx.sb) P x.sb).length=n+1:=by rw[xa,cd,M]
  have U4:(yk (ph l P x)).length=n+1:=by unfold yk;rw[cd,py,M]
  have AQ:=f.below.size
  have T:=qbq (gX (l.map Sx.sb) P x.sb) (yk (ph l P x)) (by rw[U4,A7]) (by rw[A7];omega) (C (G ⟨g,0,O⟩) (n+1) cap) W (SbRow.subs f.row) (by
   intro k s' cc hs hc;rw[<-qng,cm]at hs;unfold yk at hc;rw[cm]at hc
   cases y:(ph l P x)[k]? with
   | none=>rw[y]at hs;cases hs
   | some z=>
    rw[y]at hs hc;simp at hs hc;subst hs hc;rcases yo (bg y) with rfl|AP;refine⟨?_,by rw[f.eco];exact R9,by rw[f.eco];exact I2⟩;have q:=f.core;rw[<-f.eco]at q;exact CoAt.low (bt _) (CoAt.keep f.hi (λ_ _ _=>rfl) ui q);obtain⟨q1,q2,q3,q4⟩:=(N.below f.below).cos z AP
    exact⟨CoAt.low (bt _) (CoAt.keep q2 (λ_ _ _=>rfl) ui q1),q3,q4⟩)
  refine T.mono ?_;rintro e W'⟨tv',rv',rfl,hr,M7⟩;rw[A7]at hr
  have GK:(ph l P x).map Sx.su=qgi L P ⟨id,c,[]⟩:=by
   rw[vjv,DR]
   congr 1
   unfold Sx.su;rw[f.eid,f.eco,f.e2]
  have hpS:=gR (ph l P x);rw[GK]at hpS
  have X:RowsAt W' W.1.size tv' rv' (tsX (ph l P x)) (rsX (ph l P x)):=by
   unfold tsX rsX;rw[py,M];exact hr
  rw[hpS]at bX hQ hT;obtain⟨S,c7,e7⟩:=jF X.ats;obtain⟨a8,c8,e8⟩:=jF X.ars;subst e7 e8;refine⟨S,_,c7,a8,_,c8,rfl, ?_⟩
  by_cases eX:(tsX (ph l P x)).length<=80
  case neg=>exact An ⟨ub,qd λU u=>qd (hT (by show 80<(tsX (ph l P x)).length;omega) U (qg (qg f.below M7) u))⟩
  refine Am ⟨eX,qd λU u=>?_⟩;have rZ:Prg (tsX (ph l P x)) (rsX (ph l P x)):=PrgS.at (by rw[GK];exact bX eX);have K:=(f.more M7).more u;have O9:=M7.size;have hzU:=u.size;have hBU:=N.below K.below;obtain⟨d0,d1,d2,d3,d4⟩:=hBU.cells;rw[M]at d1;have SU:RowsAt U w.1.size (C S (tsX (ph l P x)).length c7) (C a8 (rsX (ph l P x)).length c8) (tsX (ph l P x)) (rsX (ph l P x)):=⟨vt (qm X.ats λk r=>u.block k (X.ats.lt k r).2) AQ,vt (qm X.ars λk r=>u.block k (X.ars.lt k r).2) AQ,X.ne⟩;have D9:=K.row
  have up:=qtm N.up x.sb (λt ht=>by
   obtain⟨z,y,rfl⟩:=eg.1 ht;have:=U6 z y;show z.id≠x.id;rw[f.eid]
   exact this)
  have exid:x.sb.id=id:=f.eid;rw[exid,hP]at up
  have hBi:=N.inserted K.below D9 SU f.e0 f.e1 f.e2 (by rw[f.eco];exact K.core) f.lo K.hi (by rw[f.eco];exact R9) (by rw[f.eco];exact I2) (by
   intro k r;rcases r with e|e|e;have e':g=k:=by simpa [Value.ownBlock]using e
   rw[<-e'];exact f.out;have:=(X.ats.lt k e).1;have:=f.hi;right;omega
   have:=(X.ars.lt k e).1;have:=f.hi;right;omega) up ub rZ
  refine⟨d1,⟨_,_,d2,d3⟩,d4,hBU.lt,qd (hQ eX _ ⟨?_,_,_,_,ph l P x,hBi,GK, ?_⟩ ?_)⟩;intro k r;rcases r with r|r;have:=hF k r;simp;omega;exact r.2;intro k r;have A1:=hBi.foot_lt r
  by_cases hkw:w.1.size<=k
  exact An ⟨hkw,A1⟩
  left
  apply C3;rcases r with(e|e|e|e|⟨z,y,e⟩)|⟨z,y,e⟩;exact Am (Am e);have:=(D9.lt k e).1;omega;have:=(SU.ats.lt k e).1;omega;have:=(SU.ars.lt k e).1;omega;rcases yo y with rfl|y;unfold Sx.hv at e;rw[f.e0]at e;simp[Value.ownBlock]at e;exact Am (An (An (An (An ⟨z,y,e⟩))));rcases yo y with rfl|y;have:=f.lo;omega;exact An ⟨z,y,e⟩;refine⟨K.below.os,K.below.tape,K.below.output,ud,λk h1 B=>?_⟩;have V9:k≠bb:=λe=>B (C3 k (Am (Am e)))
  rw[au _ ⟨bb,3,O⟩ _ k (by show k≠bb;exact V9),au _ ⟨bb,2,O⟩ _ k (by show k≠bb;exact V9),au _ ⟨bb,1,O⟩ _ k (by show k≠bb;exact V9)]
  exact K.below.block k h1)
 have hd8:decide ((n:Int)=8)=false:=db ub;clear N DR C3 hQ hT M hF bX mT J2 wK R9 I2 uX U6 aQ LO hL hPS hP G1;go_enter func40,ntmps40
 go_wp2_with(first|(go_at_call 71;refine be FD λw1 A0=>?_;have B1:=qd A0;clear A0)|(go_at_call 49;refine(RD _ B1).mono ?_;rintro e w2⟨A3,v2,rfl,O7⟩;obtain⟨vb,rfl⟩:=O7.ptr;have N2:=qd O7;have B2:=qd (qg B1 A3);have c2:=q9 CELLS w2 B2;clear O7 A3)|(go_at_call 73;refine(CL _ B2).mono ?_;rintro e H⟨E,D,rfl,R3,B3⟩)|(go_at_call 55;refine(CO _ _ _ _ B2 B3 N2).mono ?_;rintro e o⟨b4,rfl,GH,Z⟩;have C4:=qd GH;have B4:=qd Z;clear GH Z)|(go_at_call 72;refine(INS _ _ _ _ _ _ B2 B3 R3 B4 C4).mono ?_;rintro e w6⟨g6,U5,x6,rfl,R6⟩)|(go_at_call 74;refine(TG _ _ _ _ R6).mono ?_;rintro e w7⟨S,n7,c7,a8,n8,c8,rfl,⟨eX,E7⟩|⟨eX,E7⟩⟩)|(go_at_call 59;obtain⟨U,u⟩:=uk (w7.alloc (Al #[C S n7 c7,C a8 n8 c8] 52));rw[<-u];have t0:U.cell? ⟨w7.1.size,0,O⟩=G (C S n7 c7):=(by rw[u];simp[go_sem]);have t1:U.cell? ⟨w7.1.size,1,O⟩=G (C a8 n8 c8):=(by rw[u];simp[go_sem]);(first|(obtain⟨d1,⟨u2,u3,d2,d3⟩,d4,dl,E8⟩:=q9 E7 U (by rw[u];exact gZ _ _))|have E8:=q9 E7 U (by rw[u];exact gZ _ _));clear u;refine be (qkl _ 0 n7 S c7 U t0) ?_;rintro w8 rfl))
 all_goals exact q9 E8
theorem vs3(w:Ao)(F:Nat->Prop)(bb:Nat)(last:Int)(L:List Su)(h:Br w F bb last L)(id:Int)(r:∀x∈L,x.id≠id)(s:tu)(c:Co)(u:vqw s c)(o:L.length<8)(f:LibOk w)
  (y:(jt (qgi L (xu L id) ⟨id,c,[]⟩)).1.length<=80) (q:PrgS (qgi L (xu L id) ⟨id,c,[]⟩))
  (Q:Ending->Ao->Prop) (e:∀w',Br w' (upF F w w') bb last (qgi L (xu L id) ⟨id,c,[]⟩)->Grow F w w'->Q (Ak (Aj #[I J 0,I J 0])) w') :
  ua 40 #[Ag (G ⟨bb,0,O⟩),I J id,Y (BS s)] w Q:=
 vi4 w F bb last L h id r s c u o f (λ_=>q) Q (λ_=>e) λh=>absurd h ub
theorem vap(w:Ao)(F:Nat->Prop)(bb:Nat)(last:Int)(L:List Su)(h:Br w F bb last L)(i:Nat)(x:Su)(r:L[i]?=G x)(s:tq):
  ut 40 #[Ag (G ⟨bb,0,O⟩),I J x.id,Y s] w (Aj #[I J 6,I J 0]):=by
 obtain⟨D,sv,tv,rv,l,e,u,E⟩:=h;obtain⟨y,q,A⟩:=vnh u r;have f:=qh4 e.up (i:=i) (s:=y.sb) (by rw[cm,q];rfl);have o:y.sb.id=x.id:=by rw[<-A];rfl
 rw[o]at f;have B:=qd (pU bb (l.map Sx.sb) x.id _ w e.cells.2.1 (SbRow.subs e.row) e.up (by rw[cd];exact e.n8));rw[f.1,f.2]at B;clear e u E D f o r q A;go_enter func40,ntmps40
 go_wp2_with(go_at_call 71;refine be B λw1 C=>?_;have H:=qd C;clear C)
 go_ret2
 exact⟨rfl,q9 H⟩
theorem vao(w:Ao)(F:Nat->Prop)(bb:Nat)(last:Int)(L:List Su)(h:Br w F bb last L)(id:Int)(H:∀x∈L,x.id≠id)(s:tq)(T:s.size<=140737488355328)(t:Ast)(E:vq s=.ok t)(y:L.length=8)(u:ErrOk w):
  ut 40 #[Ag (G ⟨bb,0,O⟩),I J id,Y s] w (Aj #[I J 8,I J 0]):=by
 obtain⟨U,sv,tv,rv,l,o,r,Z⟩:=h;have B:∀x∈l,x.id≠id:=λx S=>by have:=H x.su (by rw[<-r];exact ik S);exact this
 have A:l.length=8:=by rw[<-y,<-r,cd]
 have X:=qd (qcu o B);generalize vl (l.map Sx.sb) id=P at *
 obtain⟨a,f,rfl⟩:∃a f,sv=C a 8 f:=by
  obtain⟨a,f,e⟩:=jF o.row;exact⟨a,f,by rw[e,cd,A]⟩
 have RD:Hid (∀w',Xb w w'->ua 49 #[Y s] w' (qc1 w' (.ok t))):=qd λw' q=>E ▸ qhg s w' (u.below q ui) T
 have CELLS:Hid (∀w',Xb w w'->Xc w' bb 1 (C a 8 f)):=qd λw' q=>(o.below q).cells.2.1
 clear o r Z U B A H E y u;go_enter func40,ntmps40
 go_wp2_with(first|(go_at_call 71;refine be X λw1 Q=>?_;have M:=qd Q;clear Q)|(go_at_call 49;refine(RD _ M).mono ?_;rintro e w2⟨N,v2,rfl,D⟩;obtain⟨vb,rfl⟩:=D.ptr;have K:=qd (qg M N);have c2:=q9 CELLS w2 K;clear D N))
 go_ret2
 exact⟨rfl,q9 K⟩
theorem vmw(w:Ao)(F:Nat->Prop)(bb:Nat)(last:Int)(L:List Su)(h:Br w F bb last L)(id:Int)(H:∀x∈L,x.id≠id)(s:tq)(y:s.size<=140737488355328)(o f:Int)(q:vq s=.err o f)(C:ErrOk w):
  ut 40 #[Ag (G ⟨bb,0,O⟩),I J id,Y s] w (Aj #[I J o,I J f]):=by
 obtain⟨T,sv,tv,rv,l,D,B,U⟩:=h;have E:∀x∈l,x.id≠id:=λx u=>by have:=H x.su (by rw[<-B];exact ik u);exact this
 have K:=qd (qcu D E);generalize vl (l.map Sx.sb) id=P at *;have RD:Hid (∀w',Xb w w'->ua 49 #[Y s] w' (qc1 w' (.err o f))):=qd λw' A=>q ▸ qhg s w' (C.below A ui) y
 have S:=zo q;go_enter func40,ntmps40
 go_wp2_with(first|(go_at_call 71;refine be K λw1 Q=>?_;have r:=qd Q)|(go_at_call 49;refine(RD _ r).mono ?_;rintro e w2⟨N,rfl⟩;have M:=qd (qg r N)))
 go_ret2
 exact⟨rfl,q9 M⟩
def qrs(l:List Int):List Ap:=l.map λx=>I J x
def ZsAt(w:Ao)(base:Nat)(v:Ap)(l:List Int):Prop:=w.ownsRow base 3 1 v l.length (qrs l)
theorem ZsAt.nil(w:Ao)(base:Nat):ZsAt w base (C O 0 0) []:=⟨rfl,Am ⟨rfl,rfl⟩⟩
theorem ZsAt.form{l:List Int}(h:ZsAt w base v l):∃a c,v=C a l.length c:=by
 rcases h.2 with⟨rfl,e⟩|⟨g,cap,cur,rfl,_⟩;exact⟨O,0,by rw[e]⟩;exact⟨_,_,rfl⟩
theorem ZsAt.app{l:List Int}(h:ZsAt W base v l)(U:base<=W.1.size)(x:Int)(T:l.length<=1000)(ty:TypeId)(H:Nat)(A:W.1.size=H)(y:W'=W.alloc (Al #[I J x] 3)):
  ∃g cap f,(kH #[50,50] ty #[v,C (G ⟨H,0,O⟩) 1 1]).run prog W'=.ok (C (G ⟨g,0,O⟩) (l.length+1) cap) f /\
   Hid (ZsAt f base (C (G ⟨g,0,O⟩) (l.length+1) cap) (l++[x]))/\Hid (W.grownBy f v.ownBlock)/\Hid (v.ownBlock=G g\/W.1.size<=g):=by
 subst A y;obtain⟨q,s,K,Q,N⟩:=info_parts pX;have u:=World.ownsRow.alloc h (Al #[I J x] 3);obtain⟨g,cap,f,r,S,o,M,_⟩:=run_append_lies (P:=prog) (W.alloc (Al #[I J x] 3)) 50 ty base 3 q _ 1 8 underlying50 s K Q N rfl ub v l.length (qrs l) u
  ⟨W.1.size,0,O⟩ 1 1 [I J x] rfl (World.news_of_block (cs:=#[I J x]) (t:=3) (fr:=(0,0)) (heap_alloc_new W _)) (by simp[Value.oneCell']) ub (by unfold maxLen;omega) ub ud _ rfl
 have E:=gZ W (Al #[I J x] 3);refine⟨g,cap,f,r,qd ?_,qd ⟨o.os,o.tape,o.output, ?_,λk D B=>?_⟩,qd ?_⟩
 .show World.ownsRow _ _ _ _ _ _ _
  rw[ce,du,qrs,dq];exact S
 have:=o.size;simp at this;omega;rw[o.block k ud B,E.block k D];rcases M with e|e;exact Am e
 right;simp at e;omega
def ze(m:Mg)(st:List Su×List Int×List Int)(p:Nat):List Su×List Int×List Int:=match st.1[p]? with
 | none=>st
 | some x=>if x.ms.length=6 then(st.1,st.2.1++[x.id],st.2.2++[x.id]) else(st.1.set p { x with ms:=qbx x.ms m },st.2.1++[x.id],st.2.2)
def pQ(m:Mg)(L:List Su)(pos:List Nat)(k:Nat):List Su×List Int×List Int:=(pos.take k).foldl (ze m) (L,[],[])
def vbs(m:Mg)(L:List Su)(pos:List Nat):List Su×List Int×List Int:=pos.foldl (ze m) (L,[],[])
theorem qdl(m:Mg)(L:List Su)(pos:List Nat)(k p:Nat)(h:pos[k]?=G p):pQ m L pos (k+1)=ze m (pQ m L pos k) p:=by
 unfold pQ;rw[dn,h,List.foldl_append];rfl
theorem qei(m:Mg)(st:List Su×List Int×List Int)(p:Nat):(ze m st p).1.length=st.1.length:=by
 unfold ze
 split
 rfl
 split
 rfl;simp
theorem qnz(m:Mg)(L:List Su)(pos:List Nat)(k:Nat):(pQ m L pos k).1.length=L.length:=by
 induction k with
 | zero=>rfl
 | succ k ih=>
  cases h:pos[k]? with
  | none=>
   have:pos.take (k+1)=pos.take k:=by rw[dn,h];simp
   unfold pQ at ih |-;rw[this,ih]
  | some p=>rw[qdl m L pos k p h,qei,ih]
theorem qf0(m:Mg)(L:List Su)(pos:List Nat)(k:Nat):(pQ m L pos k).2.1.length<=k/\(pQ m L pos k).2.2.length<=k:=by
 induction k with
 | zero=>exact⟨ui,ui⟩
 | succ k ih=>
  cases h:pos[k]? with
  | none=>
   have:pos.take (k+1)=pos.take k:=by rw[dn,h];simp
   unfold pQ at ih |-;rw[this];omega
  | some p=>
   rw[qdl m L pos k p h,ze]
   split
   omega
   split<;>simp<;>omega
theorem BrAt.grown{r:Option Nat}(h:BrAt w bb last sv tv rv l)(o:w.grownBy w' r)(q:∀k,r=G k->¬qcf bb sv tv rv l k):BrAt w' bb last sv tv rv l:=
 h.same o.size λk f=>o.block k (h.foot_lt f) λe=>q k e.symm f
structure PubAt(w w2:Ao)(F:Nat->Prop)(bb:Nat)(last:Int)(sv:Ap)(tv rv posv:Ap)(pos:List Nat)(st:List Su×List Int×List Int)(mv fv:Ap)(wr:Ao):Prop where
 ex:∃l,BrAt wr bb last sv tv rv l/\l.map Sx.su=st.1/\∀k,qcf bb sv tv rv l k->F k\/(w.1.size<=k/\∃x∈l,x.hv.ownBlock=G k)
 grow:Grow F w wr
 hF:∀k,F k->k<w.1.size
 zw:w.1.size<=w2.1.size
 z:w2.1.size<=wr.1.size
 pos:IsAt wr w.1.size posv pos
 posb:∀k,posv.ownBlock=G k->k<w2.1.size
 met:ZsAt wr w2.1.size mv st.2.1
 full:ZsAt wr w2.1.size fv st.2.2
 ne:∀k,mv.ownBlock=G k->fv.ownBlock≠G k
theorem PubAt.below(h:PubAt w w2 F bb last sv tv rv posv pos st mv fv wr)(e:Xb wr wr'):PubAt w w2 F bb last sv tv rv posv pos st mv fv wr':=by
 obtain⟨l,r,q,o⟩:=h.ex;exact⟨⟨l,r.below e,q,o⟩,h.grow.trans' (Grow.of_below e),h.hF,h.zw,bs h.z e.size,qm h.pos λk f=>e.block k (h.pos.lt k f).2,h.posb,qm h.met λk f=>e.block k (h.met.lt k f).2,qm h.full λk f=>e.block k (h.full.lt k f).2,h.ne⟩
theorem PubAt.not_foot(r:∀k,F k->k<w.1.size)(y:w.1.size<=w2.1.size)(u:BrAt wr bb last sv tv rv l)(s:∀k,qcf bb sv tv rv l k->F k\/(w.1.size<=k/\∃x∈l,x.hv.ownBlock=G k))(hv:ZsAt wr w2.1.size v z)(f:v.ownBlock=G k):¬qcf bb sv tv rv l k:=by
 intro q;have A:=(hv.lt k f).1;rcases s k q with e|⟨_,x,o,e⟩;have:=r k e;omega;exact zC hv (u.hps x o) ue f e
theorem PubAt.more_met{q:Ap}(h:PubAt w w2 F bb last sv tv rv posv pos st mv fv wr)
  (A:ZsAt wr' w2.1.size q z) (o:wr.grownBy wr' mv.ownBlock) (B:∀k,q.ownBlock=G k->mv.ownBlock=G k\/wr.1.size<=k):PubAt w w2 F bb last sv tv rv posv pos (st.1,z,st.2.2) q fv wr':=by
 obtain⟨l,s,E,r⟩:=h.ex;have y:∀k,mv.ownBlock=G k->¬qcf bb sv tv rv l k:=λk f=>PubAt.not_foot h.hF h.zw s r h.met f
 refine⟨⟨l,s.grown o y,E,r⟩, ?_,h.hF,h.zw,bs h.z o.size,qm h.pos λk f=>o.block k (h.pos.lt k f).2 ?_,h.posb,A,qm h.full λk f=>o.block k (h.full.lt k f).2 (λe=>h.ne k e.symm f),λk f e=>?_⟩;have:=h.zw;have:=h.grow.size;exact⟨o.os.trans h.grow.os,o.tape.trans h.grow.tape,o.output.trans h.grow.output,bs h.grow.size o.size,λk D C=>(o.block k ub (λe=>uu ((h.met.lt k e.symm).1))).trans (h.grow.block k D C)⟩;intro e;have:=(h.met.lt k e.symm).1;have:=h.posb k f;omega;rcases B k f with u|u;exact h.ne k u e;have:=(h.full.lt k e).2;omega
theorem PubAt.more_full{q:Ap}(h:PubAt w w2 F bb last sv tv rv posv pos st mv fv wr)
  (A:ZsAt wr' w2.1.size q z) (o:wr.grownBy wr' fv.ownBlock) (B:∀k,q.ownBlock=G k->fv.ownBlock=G k\/wr.1.size<=k):PubAt w w2 F bb last sv tv rv posv pos (st.1,st.2.1,z) mv q wr':=by
 obtain⟨l,s,E,r⟩:=h.ex;have y:∀k,fv.ownBlock=G k->¬qcf bb sv tv rv l k:=λk f=>PubAt.not_foot h.hF h.zw s r h.full f
 refine⟨⟨l,s.grown o y,E,r⟩, ?_,h.hF,h.zw,bs h.z o.size,qm h.pos λk f=>o.block k (h.pos.lt k f).2 ?_,h.posb,qm h.met λk f=>o.block k (h.met.lt k f).2 (λe=>h.ne k f e.symm),A,λk f e=>?_⟩;have:=h.zw;have:=h.grow.size;exact⟨o.os.trans h.grow.os,o.tape.trans h.grow.tape,o.output.trans h.grow.output,bs h.grow.size o.size,λk D C=>(o.block k ub (λe=>uu ((h.full.lt k e.symm).1))).trans (h.grow.block k D C)⟩;intro e;have:=(h.full.lt k e.symm).1;have:=h.posb k f;omega;rcases B k e with u|u;exact h.ne k f u;have:=(h.met.lt k f).2;omega
theorem PubAt.form(h:PubAt w w2 F bb last sv tv rv posv pos st mv fv wr)(o:st.1[p]?=G x):∃g n c,sv=C (G ⟨g,0,O⟩) n c:=by
 obtain⟨l,r,q,s⟩:=h.ex;obtain⟨y,f,u⟩:=vnh q o;rcases vB r.row with⟨_,e⟩|⟨g,c,hv⟩;have:=(aj.1 f).1;simp at e;subst e;simp at this;exact⟨g,_,c,hv⟩
theorem PubAt.facts{n c:Nat}(h:PubAt w w2 F bb last (C (G ⟨g,0,O⟩) n c) tv rv posv pos st mv fv wr)(s:st.1[p]?=G x):
  Xc wr bb 1 (C (G ⟨g,0,O⟩) n c)/\Xc wr bb 0 (I J last)/\Xc wr g (p * 3) (I J x.id)/\p<n/\x.ms.length<=6/\∃hv,HqAt wr g (p * 3+2) hv 0 x.ms:=by
 obtain⟨l,e,E,M⟩:=h.ex;obtain⟨y,f,q⟩:=vnh E s;obtain⟨a,N,hv,u⟩:=SbRow.subs e.row;obtain⟨H,D,Q,o,_,_⟩:=u p y.sb (by rw[cm,f];rfl)
 have B:g=H:=by
  rw[D]at hv;simp at hv;exact hv.1
 have A:n=l.length:=by
  simp at hv;exact hv.2.1
 subst B;have K:y.sb.id=x.id:=by rw[<-q];rfl
 have r:y.ms=x.ms:=by rw[<-q];rfl
 rw[K]at o;refine⟨e.cells.2.1,e.cells.1,o, ?_, ?_,y.hv, ?_⟩;rw[A];exact(aj.1 f).1;rw[<-r];exact e.m6 y (bg f);rw[<-r];exact e.heap f
theorem PubAt.pushed{n c:Nat}(h:PubAt w w2 F bb last (C (G ⟨g,0,O⟩) n c) tv rv posv pos st mv fv wr)(Q:st.1[p]?=G x){hv hv':Ap}(Z:HqAt wr g (p * 3+2) hv 0 x.ms)(hq:HqAt wr' g (p * 3+2) hv' 0 ms')(r:PqKept g (p * 3+2) hv hv' wr wr')(T:ms'.length<=6):
  PubAt w w2 F bb last (C (G ⟨g,0,O⟩) n c) tv rv posv pos (st.1.set p { x with ms:=ms' },st.2.1,st.2.2) mv fv wr':=by
 obtain⟨l,q,M,s⟩:=h.ex;obtain⟨y,B,T6⟩:=vnh M Q;have u:=bg B
 have ehv:hv=y.hv:=by
  have I:=Z.c;have A:=(q.heap B).c;rw[I]at A;simpa using A
 subst ehv;obtain⟨K,I,A,a3,a4,a5,a6,b8⟩:=q.turned B hq r T;have keepZ:∀{b:Nat} {v:Ap} {m:Nat} {xs:List Ap},wr.ownsRow b 3 1 v m xs->∀k,v.ownBlock=G k->wr'.1[k]?=wr.1[k]?:=λD k J=>r.block k (D.lt k J).2 (λe=>by subst e;exact zC D q.row ue J rfl) (λe=>zC D (q.hps y u) ue J e)
 have E:F g:=by
  rcases s g (Am (An (Am rfl))) with e|⟨_,z,f,e⟩;exact e;exact absurd rfl (zC (q.hps z f) q.row ue e)
 have Y6:=h.grow.size;refine⟨⟨l.set p K,b8, ?_,λk S=>?_⟩, ?_,h.hF,h.zw,bs h.z r.size,qm h.pos (keepZ h.pos),h.posb,qm h.met (keepZ h.met),qm h.full (keepZ h.full),h.ne⟩
 .show(l.set p K).map Sx.su=st.1.set p { x with ms:=ms' }
  rw[ny,M]
  congr 1
  rw[<-T6];simp[Sx.su,A,a3,a4]
 have two:∀k,qcf bb (C (G ⟨g,0,O⟩) n c) tv rv l k->(∀z∈l,z.hv.ownBlock≠G k)->F k:=λk CT G1=>by
  rcases s k CT with e|⟨_,z,f,e⟩;exact e;exact absurd e (G1 z f)
 have core:∀z∈l,z.lo<=k->k<z.hi->F k:=λz f Y X=>two k (An ⟨z,f,Y,X⟩) λN O9 o=>by
  have:=q.out z f k (An (An (An (An ⟨N,O9,o⟩))));omega
 rcases S with(e|e|e|e|⟨z,f,e⟩)|⟨z,f,e⟩;exact Am (two k (Am (Am e)) λz f o=>by rw[e]at o;exact vW (q.hps z f) q.blk ue o);exact Am (two k (Am (An (Am e))) λz f o=>zC (q.hps z f) q.row ue o e);exact Am (two k (Am (An (An (Am e)))) λz f o=>zC (q.hps z f) q.rows.ats ue o e);exact Am (two k (Am (An (An (An (Am e))))) λz f o=>zC (q.hps z f) q.rows.ars ue o e)
 by_cases hkw:w.1.size<=k
 exact An ⟨hkw,z,f,e⟩
 left
 have old:∀z∈l,z.hv.ownBlock=G k->F k:=λz f e=>by
  rcases s k (Am (An (An (An (An ⟨z,f,e⟩))))) with o|⟨o,_⟩;exact o;omega
 rcases lh f with f|rfl;exact old z f e;rw[I]at e;rcases r.row k e with o|o;exact old y u o;omega
 left
 rcases lh f with f|rfl;exact core z f e.1 e.2;rw[a5,a6]at e;exact core y u e.1 e.2;refine⟨r.os.trans h.grow.os,r.tape.trans h.grow.tape,r.output.trans h.grow.output,bs Y6 r.size,λk U H=>?_⟩;rw[r.block k ub (λe=>H (by rw[e];exact E)) (λe=>?_)];exact h.grow.block k U H;rcases s k (Am (An (An (An (An ⟨y,u,e⟩))))) with o|⟨o,_⟩;exact H o;omega
section
attribute [local go_sem ↓] vsk
def vre(F:Nat->Prop)(w w':Ao)(mv fv:Ap)(k:Nat):Prop:=upF F w w' k/\mv.ownBlock≠G k/\fv.ownBlock≠G k
def qkx(ps:List Pr)(L:List Su):List Nat:=vnj ps (jt L).1 (jt L).2
theorem vkh(ps:List Pr)(L:List Su):∀p∈qkx ps L,p<L.length:=by
 intro p hp;have:=vkg _ _ _ p hp;have e:(jt L).2.length=L.length:=(zW _ _).1;rw[e]at this;exact this
theorem qda(ps:List Pr)(L:List Su):(qkx ps L).length<=L.length:=by
 have:=qd9 (xg ps (jt L).1 (jt L).1.length) (jt L).2 (jt L).2.length;have e:(jt L).2.length=L.length:=(zW _ _).1;rw[e]at this;unfold qkx vnj;rw[e];exact this
theorem PubAt.begun{last':Int}(M:BrAt w bb last sv tv rv l)(K:∀k,F k->k<w.1.size)(E:∀k,qcf bb sv tv rv l k->F k)(r:Xb w w1)
  (q:Below w1.1.size (w1.setCell ⟨bb,0,O⟩ (I J last')) w2) (hp:IsAt w2 w1.1.size posv pos):PubAt w w2 F bb last' sv tv rv posv pos (l.map Sx.su,[],[]) (C O 0 0) (C O 0 0) w2:=by
 have Q:=r.size;have N:=q.size;rw[size_setCell]at N;have f:=M.below r
 have same:∀k,k<w1.1.size->k≠bb->w2.1[k]?=w1.1[k]?:=λk k1 y=>by
  rw[q.block k k1,au _ ⟨bb,0,O⟩ _ k (by show k≠bb;exact y)]
 have S:=f.lt;have u:∀{b s m:Nat} {e:TypeId} {v:Ap} {xs:List Ap},w1.ownsRow b e s v m xs->e≠54->w2.ownsRow b e s v m xs:=λB D=>qm B λk o=>same k (B.lt k o).2 (λe=>by subst e;exact vW B f.blk D o)
 refine⟨⟨l,⟨?_,u f.row ue,⟨u f.rows.ats ue,u f.rows.ars ue,f.rows.ne⟩,λx A=>u (f.hps x A) ue,f.dis,λx A=>?_,f.out,f.up,f.n8,f.m6,f.prg⟩,rfl,λk o=>Am (E k o)⟩, ?_,K,ub,ui,vt hp Q,λk o=>(hp.lt k o).2,ZsAt.nil _ _,ZsAt.nil _ _,λk o=>by simp[Value.ownBlock]at o⟩;rw[q.block bb S];exact vcb f.blk _;obtain⟨H,T,G⟩:=f.cos x A;exact⟨CoAt.keep ui (λk k1 y=>same k ub (λe=>uu (f.out x A k (Am e)))) ub H,ub,G⟩;refine⟨q.os.trans r.os,q.tape.trans r.tape,q.output.trans r.output,ub,λk k1 y=>?_⟩;rw[same k ub (λe=>y (E k (Am (Am e)))),r.block k k1]
theorem PubAt.done(h:PubAt w w2 F bb last sv tv rv posv pos st mv fv wr):
  Br wr (vre F w wr mv fv) bb last st.1/\Grow F w wr/\ZsAt wr w.1.size mv st.2.1/\ZsAt wr w.1.size fv st.2.2:=by
 obtain⟨l,o,r,q⟩:=h.ex;have s:=h.grow.size;refine⟨⟨λk f=>?_,sv,tv,rv,l,o,r,λk f=>?_⟩,h.grow,vt h.met h.zw,vt h.full h.zw⟩;rcases f.1 with e|e;have:=h.hF k e;omega;exact e.2;refine⟨?_,λe=>PubAt.not_foot h.hF h.zw o q h.met e f,λe=>PubAt.not_foot h.hF h.zw o q h.full e f⟩;rcases q k f with e|⟨e,_⟩;exact Am e;exact An ⟨e,o.foot_lt f⟩
theorem PubAt.pos_cell{a:Option Addr}{m c:Nat}(h:PubAt w w2 F bb last sv tv rv (C a m c) pos st mv fv wr)(hp:pos[k]?=G p):∃d,a=G ⟨d,0,O⟩/\Xc wr d k (I J p):=by
 rcases vB h.pos with⟨_,f⟩|⟨g,o,hv⟩;have:=(aj.1 hp).1;omega;have e:a=G ⟨g,0,O⟩:=by simp at hv;exact hv.1
 refine⟨g,e, ?_⟩;have:=World.ownsRow.cells h.pos (g:=g) (by rw[e];rfl) k (I J p) (by simp[yp,hp]);rwa [vN,ee]at this
theorem vpy(w:Ao)(F:Nat->Prop)(bb:Nat)(last:Int)(L:List Su)(h:Br w F bb last L)(pri:Int)(h0:0<=pri)(h9:pri<=9)(hlast:0<=last/\last<4611686018427387904)(ps:List Pr)(ev:Ap)
  (C8:∀w',Grow F w w'->EvIn w' ev ps) (hg:EvGood ps) (E9:ym ps=true)
  (Q:Ending->Ao->Prop) (hQ:∀w' mv fv,Br w' (vre F w w' mv fv) bb (last+1) (vbs ⟨pri,last+1⟩ L (qkx ps L)).1->Grow F w w'->ZsAt w' w.1.size mv (vbs ⟨pri,last+1⟩ L (qkx ps L)).2.1->ZsAt w' w.1.size fv (vbs ⟨pri,last+1⟩ L (qkx ps L)).2.2->(∀k,mv.ownBlock=G k->fv.ownBlock≠G k)->Q (Ak (Aj #[mv,fv,I J 0])) w') :
  ua 46 #[Ag (G ⟨bb,0,O⟩),I J pri,ev] w Q:=by
 obtain⟨hF,sv,tv,rv,l,D,K,C3⟩:=h;have eF:=C8 w (Grow.of_below uj);have HV:=qd (qro eF hg);rw[E9]at HV;obtain⟨ea,en,ec,rfl⟩:=eF.slice;have lK:jt L=(tsX l,rsX l):=by rw[<-K,gR]
 obtain⟨pos,aN⟩:=it (qkx ps L);have nS:=vkh ps L;have tA:=qda ps L;have hL8:L.length<=8:=by rw[<-K,cd];exact D.n8
 rw[aN]at hQ nS tA;obtain⟨m,Z⟩:=it pos.length;obtain⟨M,hM⟩:=uk (⟨pri,last+1⟩:Mg);rw[<-hM]at hQ;have hMp:M.pri=pri:=by rw[hM]
 have hMn:M.K=last+1:=by rw[hM]
 have VH:Hid (∀w1,Xb w w1->Xc w1 bb 0 (I J last)/\w1.frozen? ⟨bb,0,O⟩=false/\bb<w1.1.size):=qd λw1 hb=>by
  have N:=D.below hb;exact⟨N.cells.1,N.cells.2.2.2.2 0,N.lt⟩
 have PR:Hid (∀w1,Xb w w1->ua 66 #[Ag (G ⟨bb,2,O⟩),C ea en ec] (w1.setCell ⟨bb,0,O⟩ (I J (last+1))) λe w2=>∃a c,e=Ak (C a m c)/\Hid (PubAt w w2 F bb (last+1) sv tv rv (C a m c) pos (pQ M L pos 0) (C O 0 0) (C O 0 0) w2)):=qd (by
  intro w1 r;have N:=D.below r;have B8:=r.size;obtain⟨u,f⟩:=uk (w1.setCell ⟨bb,0,O⟩ (I J (last+1)));have OD:u.1.size=w1.1.size:=by rw[f];simp
  have hP1:=PubAt.begun (last':=last+1) (w2:=u) (posv:=C O 0 0) (pos:=[]) D hF C3 r (by rw[f];exact uj) (IsAt.nil _ _);obtain⟨l',b1,b2,_⟩:=hP1.ex;have JI:jt L=(tsX l',rsX l'):=by rw[<-gR,b2,K]
  have o:ProgAt u bb 2 (jt L).1 (jt L).2:=by
   rw[JI];exact⟨b1.lt,⟨_,_,b1.cells.2.2.1,b1.rows.ats⟩,_,_,b1.cells.2.2.2.1,b1.rows.ars⟩
  have PG:Prg (jt L).1 (jt L).2:=by rw[JI];exact b1.prg
  have UW:=C8 u ⟨by rw[f];exact r.os,by rw[f];exact r.tape,by rw[f];exact r.output,ub,λk k1 k2=>by
   rw[f,au _ ⟨bb,0,O⟩ _ k (by show k≠bb;exact λe=>k2 (C3 k (Am (Am e)))),r.block k k1]⟩
  rw[<-f];refine(vf7 ps _ bb 2 _ _ u o PG (UW.arg (vhf E9)) hg.rng (qwd E9)).mono ?_;rintro e w2⟨v,rfl,hi,A3⟩;have CH:IsAt w2 u.1.size v pos:=by rw[<-aN];exact hi
  obtain⟨a,c,hv⟩:=CH.form;rw[Z]at hv;subst hv;refine⟨a,c,rfl,qd ?_⟩;have:=PubAt.begun (last':=last+1) D hF C3 r (by rw[<-f,<-OD];exact A3) (by rw[<-OD];exact CH);rw[K]at this
  exact this)
 have XN:Hid (∀k p,pos[k]?=G p->∃x,(pQ M L pos k).1[p]?=G x):=qd λk p hp=>by
  have:=nS p (bg hp);exact⟨_,ag (by rw[qnz];exact this)⟩
 have YJ:Hid (∀w2 mv fv posv wr,PubAt w w2 F bb (last+1) sv tv rv posv pos (pQ M L pos m) mv fv wr->Q (Ak (Aj #[mv,fv,I J 0])) wr):=qd (by
  intro w2 mv fv posv wr hP;have e:pQ M L pos m=vbs M L pos:=by unfold pQ vbs;rw[<-Z,im]
  rw[e]at hP;obtain⟨q1,q2,q3,q4⟩:=hP.done
  exact hQ wr mv fv q1 q2 q3 q4 hP.ne)
 have hm8:m<=8:=ub;have HM:=qd Z;go_enter func46,ntmps46
 go_wp2_with(first|(go_at_call 50;refine be HV λw1 r=>?_;have B1:=qd r;obtain⟨c1,f1,l1⟩:=q9 VH w1 r)|(go_at_call 66;refine(PR w1 B1).mono ?_;rintro e w2⟨a2,c2,rfl,P2⟩))
 go_loopw [9,10,38] (λmv fv i wr=>∃k:Nat,k<=m/\i=I J k/\Hid (PubAt w w2 F bb (last+1) sv tv rv (C a2 m c2) pos (pQ M L pos k) mv fv wr)) (λ_ _ i _=>m - (intOf i).toNat)
 exact⟨0,bt _,rfl,P2⟩;obtain⟨k,hk,rfl,o⟩:=hrel
 by_cases A1:k<m
 .obtain⟨p,hp⟩:∃p,pos[k]?=G p:=⟨_,ag (uu (q9 HM))⟩
  obtain⟨x,s⟩:=q9 XN k p hp;obtain⟨g,n,c,rfl⟩:=(q9 o).form s;have f:Hid (pQ M L pos (k+1)=ze M (pQ M L pos k) p):=qd (qdl M L pos k p hp);obtain⟨hsm1,hsm2⟩:=qf0 M L pos k;obtain⟨f1,f0,fi,hpn,h6,hv,hq⟩:=(q9 o).facts s;obtain⟨d,hd⟩:=(q9 o).pos_cell hp;obtain⟨ma,mc,rfl⟩:=(q9 o).met.form;obtain⟨fa,fc,rfl⟩:=(q9 o).full.form;have sU:w2.1.size<=wr.1.size:=(q9 o).z;obtain⟨ml,dN⟩:=it ((pQ M L pos k).2.1.length);obtain⟨fl,S⟩:=it ((pQ M L pos k).2.2.length);obtain⟨g5,I9,H,r5,Z5,G5,N5⟩:=(q9 o).met.app sU x.id ub 50 wr.1.size rfl rfl
  have B:=(q9 o).more_met Z5 G5 (λj hj=>by
   have e:g5=j:=by simpa [Value.ownBlock]using hj
   rw[<-e];exact q9 N5)
  obtain⟨f51,f50,f5i,_,_,OF,X⟩:=B.facts (x:=x) (p:=p) s;rw[dN]at r5;have E:=qd B;rw[dN,S]at E;have LEN:=qd (vdq g (p * 3+2) 0 OF x.ms H X);have z5:w2.1.size<=H.1.size:=(q9 E).z;obtain⟨rfl,dc⟩:=hd;rw[dN,S]
  by_cases h66:x.ms.length=6
  .have bD:Hid (pQ M L pos (k+1)=((pQ M L pos k).1,(pQ M L pos k).2.1++[x.id],(pQ M L pos k).2.2++[x.id])):=qd (by
    rw[q9 f];unfold ze;rw[s];simp only
    rw[bo h66])
   rw[h66]at LEN;obtain⟨g6,U5,w6,r6,Z6,G6,N6⟩:=(q9 E).full.app z5 x.id (by rw[S];omega) 50 H.1.size rfl rfl
   have P6:=qd (E.more_full Z6 G6 (λj hj=>by
    have e:g6=j:=by simpa [Value.ownBlock]using hj
    rw[<-e];exact q9 N6))
   simp only[S]at r6 P6;have HS6:Hid (∃q,q<=m/\(I J ((k:Int)+1))=I J (q:Nat)/\Hid (PubAt w w2 F bb (last+1) (C (G ⟨g,0,O⟩) n c) tv rv (C (G ⟨d,0,O⟩) m c2) pos (pQ M L pos q) (C (G ⟨g5,0,O⟩) (ml+1) I9) (C (G ⟨g6,0,O⟩) (fl+1) U5) w6)):=qd ⟨k+1,ub,rfl,qd (by rw[q9 bD];exact q9 P6)⟩
   go_wp2_with(go_at_call 78;refine be LEN ?_;rintro w7 rfl)
   exact⟨q9 HS6,by simp[intOf];omega⟩
  have bD:Hid (pQ M L pos (k+1)=((pQ M L pos k).1.set p { x with ms:=qbx x.ms M },(pQ M L pos k).2.1++[x.id],(pQ M L pos k).2.2)):=qd (by
   rw[q9 f];unfold ze;rw[s];simp only
   rw[ak h66])
  have PUSH:Hid (∀U,Xb H U->ua 79 #[Ag (G ⟨g,p * 3+2,O⟩),Ai #[I J pri,I J (last+1)]] U λe w'=>e=Ak (Aj #[])/\Hid (∃q,q<=m/\(I J ((k:Int)+1))=I J (q:Nat)/\Hid (PubAt w w2 F bb (last+1) (C (G ⟨g,0,O⟩) n c) tv rv (C (G ⟨d,0,O⟩) m c2) pos (pQ M L pos q) (C (G ⟨g5,0,O⟩) (ml+1) I9) (C fa fl fc) w'))):=qd (by
   intro U hU;have A:=(q9 E).below hU;obtain⟨_,_,_,_,_,T,y⟩:=A.facts (x:=x) (p:=p) s;have Y:Ai #[I J pri,I J (last+1)]=mgV M:=by unfold mgV;rw[hMp,hMn]
   rw[Y];refine(vf9 g (p * 3+2) 0 T x.ms M ub U y (bt _)).mono ?_;rintro e w'⟨v',rfl,h1,h2⟩;refine⟨rfl,qd ⟨k+1,ub,rfl,qd ?_⟩⟩;rw[q9 bD]
   exact A.pushed (p:=p) s y h1 h2 (by rw[qjo];omega))
  obtain⟨q,hq⟩:=it x.ms.length;rw[hq]at LEN h66
  go_wp2_with(go_at_call 78;refine be LEN ?_;rintro w7 rfl)
  go_region_with(go_at_call 79;refine be (PUSH _ (by repeat (first|exact uj|apply Below.drew))) λw8 S8=>?_)
  all_goals go_wp2_with(go_at_call 79;refine be (PUSH _ (by repeat (first|exact uj|apply Below.drew))) λw8 S8=>?_)
  all_goals exact⟨q9 S8,by simp[intOf];omega⟩
 have CB:k=m:=ub;subst CB;have HE:Hid _:=qd (YJ w2 _ _ _ wr o)
 go_wp2
 refine tw ?_;exact q9 HE
def kQ(L:List Su):Prop:=∀x∈L,CoreOk x.co
theorem Br.up(h:Br w F bb last L)(o:Xb w w'):Br w' (upF F w w') bb last L:=
 (h.below o).wide (λ_ f=>Am f) λk f=>by
  rcases f with e|e
  .have:=h.1 k e;have:=o.size;omega
  .exact e.2
theorem Br.rising(h:Br w F bb last L):L.Pairwise (λa b=>a.id<b.id)/\L.length<=8/\PrgS L:=by
 obtain⟨_,sv,tv,rv,l,o,f,_⟩:=h;refine⟨?_,by rw[<-f,cd];exact o.n8, ?_⟩;rw[<-f];have e:=o.up;unfold xD at e;rw[nt]at e |-;exact e;unfold PrgS;rw[<-f,gR];exact o.prg
def qel(L:List Su)(id:Int)(s:List UInt8):List Su×Int×Int:=
 if(L.any λx=>x.id==id)=true then(L,6,0) else match vq (BS s) with
 | .err en pl=>(L,en,pl)
 | .ok t=>if L.length=8 then(L,8,0) else if 80<(jt (qgi L (xu L id) ⟨id,qj t,[]⟩)).1.length then(L,8,0) else(qgi L (xu L id) ⟨id,qj t,[]⟩,0,0)
theorem qx2{y:Su}(h:y∈qgi L k x):y=x\/y∈L:=by
 unfold qgi at h;rcases cr.1 h with h|h;exact An (nw h);rcases eo.1 h with h|h;exact Am h;exact An (ln h)
theorem vmv(w:Ao)(F:Nat->Prop)(bb:Nat)(last:Int)(L:List Su)(h:Br w F bb last L)(r:kQ L)(id:Int)(s:tu)(D:s.length<=140737488355328)(A:LibOk w)
  (Q:Ending->Ao->Prop) (f:∀w',Br w' (upF F w w') bb last (qel L id s).1->kQ (qel L id s).1->Grow F w w'->Q (Ak (Aj #[I J (qel L id s).2.1,I J (qel L id s).2.2])) w') :
  ua 40 #[Ag (G ⟨bb,0,O⟩),I J id,Y (BS s)] w Q:=by
 have E:(BS s).size<=140737488355328:=by rw[qJ];exact D
 by_cases hh:(L.any λx=>x.id==id)=true
 have e:qel L id s=(L,6,0):=by unfold qel;rw[bo hh]
 rw[e]at f;obtain⟨x,q,B⟩:=mh.1 hh;have B:x.id=id:=by simpa using B
 obtain⟨i,H⟩:=dd q;have:=vap w F bb last L h i x H (BS s);rw[B]at this;exact this.mono (by rintro e w'⟨rfl,o⟩;exact f w' (h.up o) r (Grow.of_below o));have C:∀x∈L,x.id≠id:=λx q e=>hh (mh.2 ⟨x,q,by simpa using e⟩)
 cases J2:vq (BS s) with
 | err en pl=>
  have e:qel L id s=(L,en,pl):=by unfold qel;rw[ak hh,J2]
  rw[e]at f;exact(vmw w F bb last L h id C (BS s) E en pl J2 A.err).mono (by rintro e w'⟨rfl,o⟩;exact f w' (h.up o) r (Grow.of_below o))
 | ok t=>
  have y:=qg1 J2;have S:vqw s (qj t):=⟨t,J2,rfl,λ_=>vis,vdn y.fld,y.size,D⟩
  by_cases h8:L.length=8
  have e:qel L id s=(L,8,0):=by unfold qel;rw[ak hh,J2];simp only;rw[bo h8]
  rw[e]at f;exact(vao w F bb last L h id C (BS s) E t J2 h8 A.err).mono (by rintro e w'⟨rfl,o⟩;exact f w' (h.up o) r (Grow.of_below o));have N:L.length<8:=uu h.rising.2.1
  have hg':kQ (qgi L (xu L id) ⟨id,qj t,[]⟩):=λx q=>by
   rcases qx2 q with rfl|q;exact y;exact r x q
  unfold qel at f;rw[ak hh,J2]at f;simp only at f;rw[ak h8]at f;refine vi4 w F bb last L h id C s (qj t) S N A (λu=>qqy hg' (by simp[qgi];omega) u) Q (λu w' M K=>?_) λu w' o=>?_
  rw[ak ub]at f;exact f w' M hg' K;rw[bo u]at f;exact f w' (h.up o) r (Grow.of_below o)
def vhc(L:List Su)(id:Int):List Su:=L.filter λx=>!(x.id==id)
def yB(L:List Su)(id:Int):List Su×Int:=if(L.any λx=>x.id==id)=true then(vhc L id,0) else(L,5)
theorem vhd(hp:L.Pairwise λa b=>a.id<b.id)(q:L[i]?=G x):L.take i++L.drop (i+1)=vhc L x.id:=by
 have r:=(aj.1 q).1
 have hd:L=L.take i++x::L.drop (i+1):=by
  have e:=cj r;rw[(aj.1 q).2]at e;rw[<-e,fh]
 have f:=hp;rw[hd,iy,mf]at f;unfold vhc
 conv=>rhs;rw[hd]
 rw[List.filter_append,td uc,List.filter_eq_self.2 λa o=>?_,List.filter_eq_self.2 λa o=>?_];have:=f.2.1.1 a o;have:a.id≠x.id:=ub;simpa using this;have:=f.2.2 a o x (ei ..);have:a.id≠x.id:=ub;simpa using this
theorem qqd:∀x∈vhc L id,x∈L:=λ_ e=>(ou.1 e).1
theorem vb8(w:Ao)(F:Nat->Prop)(bb:Nat)(last:Int)(L:List Su)(h:Br w F bb last L)(r:kQ L)(id:Int)
  (Q:Ending->Ao->Prop) (o:∀w',Br w' (upF F w w') bb last (yB L id).1->kQ (yB L id).1->Grow F w w'->Q (Ak (I J (yB L id).2)) w') :
  ua 42 #[Ag (G ⟨bb,0,O⟩),I J id] w Q:=by
 obtain⟨hp,B,D⟩:=h.rising
 by_cases hh:(L.any λx=>x.id==id)=true
 have e:yB L id=(vhc L id,0):=by unfold yB;rw[bo hh]
 rw[e]at o;obtain⟨x,f,q⟩:=mh.1 hh;have q:x.id=id:=by simpa using q
 obtain⟨i,u⟩:=dd f;have s:=vhd hp u;rw[q]at s;have hg':kQ (vhc L id):=λx f=>r x (qqd x f)
 have:=vgv w F bb last L h i x u (by
  rw[s];have K:=qh6 r (L':=vhc L id) λx f=>⟨x,qqd x f,rfl⟩
  have H:=D.terms
  refine qqy hg' (bs (List.length_filter_le _ _) B) ub) Q (λw' A C=>by rw[s]at A;exact o w' A hg' C)
 rw[q]at this;exact this;have E:∀x∈L,x.id≠id:=λx f e=>hh (mh.2 ⟨x,f,by simpa using e⟩)
 have e:yB L id=(L,5):=by unfold yB;rw[ak hh]
 rw[e]at o;exact(vgw w F bb last L h id E).mono (by rintro e w'⟨rfl,y⟩;exact o w' (h.up y) r (Grow.of_below y))
theorem vm5(w:Ao)(bb:Nat)(pri:Int)(ps:List Pr)(ev:Ap)(q:EvIn w ev ps)(r:EvGood ps)(u:¬(0<=pri/\pri<=9/\ym ps=true)):
  ut 46 #[Ag (G ⟨bb,0,O⟩),I J pri,ev] w (Aj #[C O 0 0,C O 0 0,I J 7]):=by
 have o:=qd (qro q r);obtain⟨H,D,E,rfl⟩:=q.slice
 by_cases h0:pri<0
 .have e:decide (pri<0)=true:=di h0
  go_enter func46,ntmps46
  go_wp2
  refine tw ?_;exact⟨rfl,uj⟩
 have e:decide (pri<0)=false:=db h0
 by_cases h9:9<pri
 .have s:decide (pri > 9)=true:=di h9
  have f:decide (9<pri)=true:=di h9;go_enter func46,ntmps46
  go_wp2
  refine tw ?_;exact⟨rfl,uj⟩
 have s:decide (pri > 9)=false:=db h9
 have y:ym ps=false:=by
  cases he:ym ps with
  | false=>rfl
  | true=>exact absurd ⟨ub,ub,he⟩ u
 rw[y]at o;go_enter func46,ntmps46
 go_wp2_with(go_at_call 50;refine be o λw1 B=>?_;have A:=qd B)
 refine tw ?_;exact⟨rfl,q9 A⟩
theorem qjn(h:kQ st.1):kQ (ze m st p).1:=by
 unfold ze
 split
 exact h;rename_i x f
 split
 exact h;intro y e;rcases lh e with e|rfl;exact h y e;exact h x (bg f)
theorem qsn:∀(pos:List Nat) (st:List Su×List Int×List Int),kQ st.1->kQ (pos.foldl (ze m) st).1:=by
 intro pos
 induction pos with
 | nil=>intro st h;exact h
 | cons p r ih=>intro st h;exact ih _ (qjn h)
def qar(L:List Su)(last pri:Int)(ps:List Pr):(List Su×List Int×List Int)×Int×Int:=if 0<=pri/\pri<=9/\ym ps=true then(vbs ⟨pri,last+1⟩ L (qkx ps L),last+1,0) else((L,[],[]),last,7)
theorem qyo{pri:Int}(h:kQ L):kQ (qar L last pri ps).1.1:=by
 unfold qar
 split
 exact qsn _ _ h;exact h
theorem vm4(w:Ao)(F:Nat->Prop)(bb:Nat)(last:Int)(L:List Su)(h:Br w F bb last L)(pri:Int)(f:0<=last/\last<4611686018427387904)(ps:List Pr)(ev:Ap)
  (u:∀w',Grow F w w'->EvIn w' ev ps) (s:EvGood ps)
  (Q:Ending->Ao->Prop) (q:∀w' mv fv,Br w' (vre F w w' mv fv) bb (qar L last pri ps).2.1 (qar L last pri ps).1.1->Grow F w w'->ZsAt w' w.1.size mv (qar L last pri ps).1.2.1->ZsAt w' w.1.size fv (qar L last pri ps).1.2.2->(∀k,mv.ownBlock=G k->fv.ownBlock≠G k)->Q (Ak (Aj #[mv,fv,I J (qar L last pri ps).2.2])) w') :
  ua 46 #[Ag (G ⟨bb,0,O⟩),I J pri,ev] w Q:=by
 by_cases hc:0<=pri/\pri<=9/\ym ps=true
 have e:qar L last pri ps=(vbs ⟨pri,last+1⟩ L (qkx ps L),last+1,0):=by unfold qar;rw[bo hc]
 rw[e]at q;exact vpy w F bb last L h pri hc.1 hc.2.1 f ps ev u s hc.2.2 Q q;have e:qar L last pri ps=((L,[],[]),last,7):=by unfold qar;rw[ak hc]
 rw[e]at q;refine be (vm5 w bb pri ps ev (u w (Grow.of_below uj)) s hc) λw' r=>?_;refine q w' _ _ ((h.up r).wide (λk o=>⟨o,by simp[Value.ownBlock],by simp[Value.ownBlock]⟩) λk o=>(h.up r).1 k o.1) (Grow.of_below r) (ZsAt.nil _ _) (ZsAt.nil _ _) (λk o=>by simp[Value.ownBlock]at o)
def vf2(id:Int)(y:Su):Su:=if y.id=id then { y with ms:=qec y.ms } else y
def yT(L:List Su)(id:Int):List Su×Int×Int:=match L.find? λx=>x.id==id with
 | some x=>(L.map (vf2 id),qnf x.ms,0)
 | none=>(L,0,5)
theorem va6(hp:L.Pairwise λa b=>a.id<b.id)(q:L[i]?=G x):L.set i { x with ms:=qec x.ms }=L.map (vf2 x.id):=by
 apply ix;intro j;rw[fq,cm];obtain⟨u,f⟩:=aj.1 q
 split
 rename_i e;subst e;rw[q];simp[vf2];rename_i h
 cases hj:L[j]? with
 | none=>rfl
 | some y=>
  obtain⟨r,A⟩:=aj.1 hj
  have B:y.id≠x.id:=by
   have s:=ed.1 hp;rcases Nat.lt_or_gt_of_ne h with o|o;have:=s i j u r o;rw[f,A]at this;omega;have:=s j i r u o;rw[f,A]at this;omega
  simp[vf2,B]
theorem qtd(h:kQ L):kQ (yT L id).1:=by
 unfold yT
 split
 intro y o;obtain⟨z,f,rfl⟩:=eg.1 o;have e:(vf2 id z).co=z.co:=by unfold vf2;split<;>rfl
 rw[e];exact h z f;exact h
theorem vf1(w:Ao)(F:Nat->Prop)(bb:Nat)(last:Int)(L:List Su)(h:Br w F bb last L)(id:Int)
  (Q:Ending->Ao->Prop) (f:∀w',Br w' (upF F w w') bb last (yT L id).1->Grow F w w'->Q (Ak (Aj #[I J (yT L id).2.1,I J (yT L id).2.2])) w') :
  ua 44 #[Ag (G ⟨bb,0,O⟩),I J id] w Q:=by
 obtain⟨hp,_,_⟩:=h.rising
 cases hf:L.find? λx=>x.id==id with
 | some x=>
  have e:yT L id=(L.map (vf2 id),qnf x.ms,0):=by unfold yT;rw[hf]
  rw[e]at f;have s:x.id=id:=by simpa using List.find?_some hf
  obtain⟨i,o⟩:=dd (nj hf);have:=vky w F bb last L h i x o Q (λw' r y=>by rw[va6 hp o,s]at r;exact f w' r y);rw[s]at this;exact this
 | none=>
  have e:yT L id=(L,0,5):=by unfold yT;rw[hf]
  rw[e]at f;refine(vkz w F bb last L h id (λx u e=>?_)).mono (by rintro e w'⟨rfl,q⟩;exact f w' (h.up q) (Grow.of_below q));have:=List.find?_eq_none.1 hf x u;simp[e]at this
theorem ve3(w:Ao)(F:Nat->Prop)(bb:Nat)(last:Int)(L:List Su)(h:Br w F bb last L):
  ua 38 #[Ag (G ⟨bb,0,O⟩)] w λe w'=>∃v,e=Ak v/\ZsAt w' w.1.size v (L.map Su.id)/\Xb w w':=by
 obtain⟨hF,sv,tv,rv,l,H,S,C3⟩:=h;obtain⟨a,cp,hv,A⟩:=SbRow.subs H.row;rw[cd]at hv;have U:l.length=L.length:=by rw[<-S,cd]
 have OP:L.length<=8:=by rw[<-U];exact H.n8
 obtain⟨n,B⟩:=it L.length;rw[U,B]at hv;have c1:=H.cells.2.1;rw[hv]at c1
 have HX:Hid (∀k,k<n->∃g x core row len cap,a=G ⟨g,0,O⟩/\L[k]?=G x/\g<w.1.size/\Xc w g (k * 3) (I J x.id)/\Xc w g (k * 3+1) (Ag core)/\Xc w g (k * 3+2) (C row len cap)):=qd (by
  intro k hk;obtain⟨x,Z⟩:∃x,L[k]?=G x:=⟨_,ag ub⟩;obtain⟨y,hy,T6⟩:=vnh S Z;obtain⟨g,ha,f,s,M,K⟩:=A k y.sb (by rw[cm,hy];rfl);have fW:y.sb.id=x.id:=by rw[<-T6];rfl
  rw[fW]at s
  exact⟨g,x,_,_,_,_,ha,Z,f,s,M,K⟩)
 have r:=qd B;rw[B]at OP;go_enter func38,ntmps38
 go_wp2
 go_loopw [3,11] (λv i wr=>∃k:Nat,k<=n/\i=I J k/\Hid (ZsAt wr w.1.size v ((L.take k).map Su.id))/\Hid (Xb w wr)) (λ_ i _=>n - (intOf i).toNat)
 exact⟨0,bt _,rfl,qd (ZsAt.nil _ _),qd uj⟩;obtain⟨k,hk,rfl,q,Y⟩:=hrel
 by_cases A1:k<n
 .obtain⟨g,x,core,row,len,cap,rfl,A,f,s,M,K⟩:=q9 HX k A1
  have o:=q9 Y;have s:=(o.cell (p:=⟨g,k * 3,O⟩) f).trans s;have M:=(o.cell (p:=⟨g,k * 3+1,O⟩) f).trans M;have K:=(o.cell (p:=⟨g,k * 3+2,O⟩) f).trans K;have hS:Hid ((L.take (k+1)).map Su.id=(L.take k).map Su.id++[x.id]):=qd (by rw[dn,A];simp);obtain⟨va,vc,rfl⟩:=(q9 q).form;have Q:((L.take k).map Su.id).length=k:=by rw[cd,cw,q9 r];omega
  rw[Q];have hz:=o.size;obtain⟨N,u⟩:=uk (wr.alloc (Al #[I J x.id,Ag core,C row len cap] 130));have A0:Xb wr N:=by rw[u];exact gZ _ _
  have B8:N.1.size=wr.1.size+1:=by rw[u];simp
  obtain⟨g5,I9,w5,r5,X,G5,N5⟩:=ZsAt.app (W':=N.alloc (Al #[I J x.id] 3)) (qm q λj D=>A0.block j (q.lt j D).2) ub x.id ub 50 (wr.1.size+1) B8 rfl;rw[Q,u]at r5;rw[Q]at X
  have E:Hid (Xb w w5):=qd (by
   have T:=qg o A0
   exact T.grown G5 T.size λj D=>(q.lt j D).1)
  go_wp2
  exact⟨⟨k+1,ub,rfl,by rw[q9 hS];exact X,E⟩,by simp[intOf];omega⟩
 have Z0:k=n:=ub;subst Z0;have HZ:Hid (ZsAt wr w.1.size u3 (L.map Su.id)):=qd (by have:=q9 q;rw[<-q9 r,im]at this;exact this)
 go_wp2
 go_ret;exact⟨_,rfl,q9 HZ,q9 Y⟩
def xp(ms:List Mg):Nat->Nat
 | 0=>0
 | k+1=>if(ms.getD (xp ms k) ⟨0,0⟩).pri<(ms.getD k ⟨0,0⟩).pri then k else xp ms k
theorem qc2(ms:List Mg):∀k,0<k->xp ms k<k:=by
 intro k
 induction k with
 | zero=>intro h;omega
 | succ k ih=>
  intro _;rw[xp]
  split
  omega
  by_cases e:k=0
  .subst e;show xp ms 0<1;exact dt 0
  have:=ih ub;omega
theorem qvg(ms:List Mg):xp ms 1=0:=by
 rw[xp];split<;>rfl
def qms(ms:List Mg):List Mg:=ms.take (xp ms ms.length)++ms.drop (xp ms ms.length+1)
def kM(R:List Ru)(id:Int):List Ru×Int×Int:=match R.findIdx? λx=>x.id==id with
 | none=>(R,0,5)
 | some i=>match R[i]? with
  | none=>(R,0,5)
  | some x=>if x.ms.length=0 then(R,0,0) else(R.set i (x.ms' (qms x.ms)),(x.ms.getD (xp x.ms x.ms.length) ⟨0,0⟩).K,0)
theorem qja(l:List Mg)(k:Nat):(qU l).take (k * 2)=qU (l.take k):=by
 induction k generalizing l with
 | zero=>simp[qU]
 | succ k ih=>
  cases l with
  | nil=>rfl
  | cons x l=>
   rw[qU,dp,<-qU,List.take_append,show([I J x.pri,I J x.K]).length=2 from rfl,fo (by show 2<=_;omega),show(k+1) * 2 - 2=k * 2 by omega,ih];rfl
theorem qj9(l:List Mg)(k:Nat):(qU l).drop (k * 2)=qU (l.drop k):=by
 induction k generalizing l with
 | zero=>simp
 | succ k ih=>
  cases l with
  | nil=>rfl
  | cons x l=>rw[qU,dp,<-qU,show(k+1) * 2=2+k * 2 by omega,<-th,List.drop_left' (by rfl),ih];rfl
theorem qdb(l r:List Mg):qU (l++r)=qU l++qU r:=by simp[qU]
theorem RBr.up(o:Xb w w1)(h:RBr w' (upF F w1 w') mb n R)(f:Grow F w1 w')(s:∀k,F k->k<w.1.size):RBr w' (upF F w w') mb n R/\Grow F w w':=by
 have C:=o.size;have D:=f.size;obtain⟨_,u,sv,l,r,A,y⟩:=h;refine⟨⟨λk q=>by rcases q with e|e;have:=s k e;omega;exact e.2,u,sv,l,r,A,λk q=>?_⟩,f.os.trans o.os,f.tape.trans o.tape,f.output.trans o.output,ub,λk B r=>(f.block k ub r).trans (o.block k B)⟩;rcases y k q with e|e;exact Am e;exact An ⟨ub,e.2⟩
theorem qzn(h:RBr w F mb n R)(h6:∀x∈R,x.ms.length<=6)(id:Int)(Q:Ending->Ao->Prop)(K:∀w',RBr w' (upF F w w') mb n (kM R id).1->Grow F w w'->Q (Ak (Aj #[I J (kM R id).2.1,I J (kM R id).2.2])) w'):
  ua 45 #[Ag (G ⟨mb,0,O⟩),I J id] w Q:=by
 have h':=h;obtain⟨hF,h8,sv,l,N,hL,C3⟩:=h;have uD:l.length<=8:=by rw[<-hL,cd]at h8;exact h8
 have FD:=qd (qdu N uD id);have F8:=qpd hL id
 cases hfx:R.findIdx? (λx=>x.id==id) with
 | none=>
  have hK:kT l id=-1:=by rw[kT,F8,hfx]
  have M:kM R id=(R,0,5):=by rw[kM,hfx]
  rw[M]at K;have B:=qd (K w h'.wide (Grow.same F w));rw[hK]at FD;go_enter func45,ntmps45
  go_wp2_with(go_at_call 75;refine be FD λw' hw=>?_;subst w')
  exact q9 B
 | some i=>
  have hK:kT l id=i:=by rw[kT,F8,hfx]
  rw[hK]at FD;rw[hfx]at F8;have W9:i<l.length:=(ib.1 F8).1;obtain⟨x,hx⟩:∃x,l[i]?=G x:=⟨_,ag W9⟩;have hxR:R[i]?=G x.ru:=by rw[<-hL,cm,hx];rfl
  have hx6:x.ms.length<=6:=h6 x.ru (bg hxR)
  have M:kM R id=if x.ms.length=0 then(R,0,0) else(R.set i (x.ru.ms' (qms x.ms)),(x.ms.getD (xp x.ms x.ms.length) ⟨0,0⟩).K,0):=by
   unfold kM;rw[hfx];show(match R[i]? with|none=>_|some x=>_)=_;rw[hxR];rfl
  obtain⟨c0,c1,cz⟩:=N.cells;obtain⟨g,c,e,hg,e0,e1,e2,ez⟩:=N.sub hx;subst e;have U:=N.qs x (bg hx);obtain⟨m,hm⟩:=it l.length;have fX:=uo i m;obtain⟨q,hq⟩:=it x.ms.length;have fA:w.cell? ⟨g,i * 3+2,O⟩=G (C x.qa q x.qc):=by rw[e2,<-hq];rfl
  have hq6:q<=6:=ub
  by_cases dR:q=0
  .rw[hq,bo dR]at M
   rw[M]at K;have B:=qd (K w h'.wide (Grow.same F w));subst dR;rw[hm]at c0;clear h' K C3 F8 hfx hK M h8 hF h6 U e2 N hL;go_enter func45,ntmps45
   go_wp2_with(go_at_call 75;refine be FD λw' hw=>?_;subst w')
   exact q9 B
  rw[hq,ak dR]at M;rw[M]at K
  obtain⟨f,SZ⟩:∃f,x.qa=G ⟨f,0,O⟩:=by
   rcases vB U with⟨_,h0⟩|⟨f,cq,e⟩;omega;exact⟨f,by unfold Rs.qv at e;simp at e;exact e.1⟩
  have BH:x.qv=C (G ⟨f,0,O⟩) q x.qc:=by unfold Rs.qv;rw[SZ,hq]
  rw[SZ]at fA;rw[BH,hq]at U;have JF:f<w.1.size:=(U.lt f rfl).2
  have L6:∀j u,(qU x.ms)[j]?=G u->Xc w f j u:=λj u o=>by
   have:=World.ownsRow.cells U (g:=f) rfl j u o;rwa [vN,ee]at this
  have HC:Hid (∀wr,Xb w wr->∀j y,x.ms[j]?=G y->Xc wr f (j * 2) (I J y.pri)/\Xc wr f (j * 2+1) (I J y.K)):=qd λwr H j y Z=>by
   obtain⟨a,b⟩:=ku Z;exact⟨((qk H).1 _ _ JF).trans (L6 _ _ a),((qk H).1 _ _ JF).trans (L6 _ _ b)⟩
  have HE:Hid (∀wr,Xb w wr->Xc wr g (i * 3+2) (C (G ⟨f,0,O⟩) q x.qc)):=qd λwr H=>((qk H).1 _ _ hg).trans fA
  have uG:=qd K;have t7:=qd N;have IF:=qd hF;have NO:=qd C3;have HX:=qd hx;have HXQ:=qd U;have HCC:=qd L6;have D:=qd hq;have HL:=qd hL;rw[hm]at c0;go_enter func45,ntmps45
  go_wp2_with(go_at_call 75;refine be FD λw' hw=>?_;subst w')
  go_loopw [8,9] (λb k wr=>∃j:Nat,1<=j/\j<=q/\k=I J j/\b=I J (xp x.ms j:Nat)/\Hid (Xb w wr)) (λ_ k _=>q - (intOf k).toNat)
  exact⟨1,ui,ub,rfl,by rw[qvg];rfl,qd uj⟩;obtain⟨j,OR,hjq,rfl,rfl,S⟩:=hrel;have E2:=q9 HE wr S;have aT:=qc2 x.ms j ub;obtain⟨b,H⟩:=it (xp x.ms j);have fJ:=qd H;rw[H]at aT |-
  by_cases fV:j<q
  .obtain⟨y,Z⟩:∃y,x.ms[j]?=G y:=⟨_,ag (uu (q9 D))⟩
   obtain⟨z,Y⟩:∃z,x.ms[b]?=G z:=⟨_,ag (uu (q9 D))⟩;obtain⟨y1,y2⟩:=q9 HC wr S j y Z;obtain⟨z1,z2⟩:=q9 HC wr S b z Y
   have HN:Hid (xp x.ms (j+1)=if z.pri<y.pri then j else b):=qd (by
    rw[xp,q9 fJ,bi,bi,Z,Y];rfl)
   have G0:=um b;have A:=uo b q;clear Z Y fJ
   by_cases hp:z.pri<y.pri
   .have hd:decide (z.pri<y.pri)=true:=di hp
    rw[bo hp]at HN;clear hp
    go_wp2
    go_quiet (fail)
    go_wp2
    go_roundw
    case rel=>exact⟨j+1,ub,ub,by go_num,by rw[q9 HN],qd (ep S _)⟩
    simp[intOf];omega
   have hd:decide (z.pri<y.pri)=false:=db hp;rw[ak hp]at HN;clear hp
   go_wp2
   go_quiet (fail)
   go_wp2
   go_roundw
   case rel=>exact⟨j+1,ub,ub,by go_num,by rw[q9 HN],qd (ep S _)⟩
   simp[intOf];omega
  have UI:j=q:=ub;subst UI;have J9:=uq j j;have s:=q9 S;have Y:=s.size;have SV:f<wr.1.size:=ub;obtain⟨z,sU⟩:∃z,x.ms[b]?=G z:=⟨_,ag (uu (q9 D))⟩;obtain⟨z1,z2⟩:=q9 HC wr s b z sU;have IW:=qE HXQ s ui
  have dA:j<=x.qc:=by
   rcases IW.2 with⟨e,_⟩|⟨g',c',cur,e,_,_,hc,_⟩;cases e;simp at e;omega
  have DC:∀k u,(qU x.ms)[k]?=G u->Xc wr f k u:=λk u o=>((qk s).1 _ _ JF).trans (HCC k u o)
  obtain⟨qc,JG⟩:=it x.qc;rw[JG]at dA E2;obtain⟨a1,MG,w1,lX,G3,QS,AA⟩:=kB (T:=131) (e:=147) (base:=wr.1.size) (v:=C O 0 0) (n:=0) (xs:=[]) (m:=b) (c:=qc) (a:=G ⟨f,0,O⟩) (news:=qU (x.ms.take b)) underlying131 qgh rfl ub (dy wr _ _ _) ui (by rw[jQ,cw,ot (uu (q9 D))]) (An ⟨_,rfl,λk u o=>by rw[vN,ee];rw[<-qja]at o;exact DC k u (by rw[ll]at o;split at o;exact o;cases o)⟩) (qdc _) ub ub;rw[ee]at lX G3 AA;have X:Xb wr w1:=uj.grown QS ui (λk E=>by simp[Value.ownBlock]at E);have E3:=q9 HE w1 (qg s X);rw[JG]at E3
  obtain⟨off,cc,aP⟩:∃off cc,(qc=b+1/\off=0/\cc=0)\/(¬qc=b+1/\off=(b+1) * 2/\cc=qc - (b+1)):=by
   by_cases e:qc=b+1
   exact⟨0,0,Am ⟨e,rfl,rfl⟩⟩;exact⟨_,_,An ⟨e,rfl,rfl⟩⟩
  have I4:∀k,w1.cell? ⟨f,k,O⟩=wr.cell? ⟨f,k,O⟩:=λk=>(qk X).1 _ _ SV
  obtain⟨a2,c2,w2,cE,J0,uN,fF⟩:=kB (T:=131) (e:=147) (m:=j - (b+1)) (c:=cc) (a:=G ⟨f,off,O⟩) (news:=qU (x.ms.drop (b+1))) underlying131 qgh rfl ub G3 X.size (by rw[jQ,dj,q9 D]) (An ⟨_,rfl,λk u o=>by
   rw[vN,I4];rw[<-qj9,io]at o;rcases aP with⟨e,_,_⟩|⟨_,e,_⟩;have A7:=(aj.1 o).1;rw[jQ]at A7;have:=q9 D;omega
   rw[e];exact DC _ u o⟩) (qdc _) ub ub
  have A:Xb wr w2:=X.grown uN X.size (λk E=>(G3.lt k E).1);have e3:b+(j - (b+1))=j - 1:=ub;rw[e3]at cE J0;have UZ:qms x.ms=x.ms.take b++x.ms.drop (b+1):=by unfold qms;rw[q9 D,q9 fJ]
  have aS:(qms x.ms).length=j - 1:=by rw[UZ,ce,cw,dj];have:=q9 D;omega
  have N9:wr.grownBy w2 x.qv.ownBlock:=⟨A.os,A.tape,A.output,A.size,λk h1 _=>A.block k h1⟩
  have D9:w2.ownsRow 0 147 2 (C a2 (qms x.ms).length c2) (qms x.ms).length (qU (qms x.ms)):=by
   rw[aS,UZ,qdb];have:=q9 J0;refine⟨this.1, ?_⟩;rcases this.2 with h0|⟨g',c',cur,e,_,r⟩;exact Am h0;exact An ⟨g',c',cur,e,bt _,r⟩
  obtain⟨T8,U9⟩:=RBr.turn (λk E=>aq (IF k E) Y) uD NO (t7.below s) HX N9 D9 (λk E=>by
   right
   have:=(q9 J0).lt k (by rw[aS]at E;exact E)
   exact this.1)
  rw[q9 HL]at T8;obtain⟨T8,U9⟩:=RBr.up s T8 U9 IF;have B:=qd (uG _ T8 U9);rw[q9 fJ,bi,sU,aS]at B;replace B:Hid (Q (Ak (Aj #[I J z.K,I J 0])) (w2.setCell ⟨g,i * 3+2,O⟩ (C a2 (j - 1) c2))):=B;have E4:w2.cell? ⟨g,i * 3+2,O⟩=G (C (G ⟨f,0,O⟩) j qc):=by rw[q9 HE w2 (qg s A),JG]
  have cz2:Xf w2 g:=λk=>((qk (qg s A)).2 _ _ hg).trans (ez k)
  have oB:g<w2.1.size:=aq hg (qg s A).size;have G0:=um b;have D5:=uo b j;have K8:(b:Int)+1<=(j:Int):=ub;clear T8 U9 D9 N9 aS UZ e3 G3 J0 QS uN AA fF I4 DC IW sU fJ X A s uG t7 IF NO HX HXQ HCC HL HE HC JG;rcases aP with⟨hc,rfl,rfl⟩|⟨hc,rfl,rfl⟩
  .subst hc
   rw[show j - (b+1)=0 by omega]at cE
   go_wp2
   all_goals exact q9 B
  go_wp2
  all_goals exact q9 B
end
structure Zu where
 id:Int
 Q:List UInt8
 co:Co
 hs:List Mg
 q:List Mg
def Zu.su(z:Zu):Su:=⟨z.id,z.co,z.hs⟩
def Zu.ru(z:Zu):Ru:=⟨z.id,z.Q,z.q⟩
structure ZOk(n:Int)(z:Zu):Prop where
 rd:∃t,vq (BS z.Q)=.ok t/\qj t=z.co
 tl:z.Q.length<=140737488355328
 hp:HeapL z.hs
 pm:z.hs.Perm z.q
 up:z.q.Pairwise λa b=>a.K<b.K
 le:∀m∈z.q,m.K<=n
 l6:z.q.length<=6
def ZRel(L:List Su)(R:List Ru)(n:Int)(Z:List Zu):Prop:=L=Z.map Zu.su/\R=Z.map Zu.ru/\(∀z∈Z,ZOk n z)/\Z.Pairwise λa b=>a.id<b.id
theorem ZRel.find{Z:List Zu}(h:ZRel L R n Z)(id:Int):(R.findIdx? (λx=>x.id==id)=O/\(L.any λx=>x.id==id)=false/\(L.find? λx=>x.id==id)=O)\/∃i z,Z[i]?=G z/\z.id=id/\R.findIdx? (λx=>x.id==id)=G i/\(L.any λx=>x.id==id)=true/\(L.find? λx=>x.id==id)=G z.su:=by
 obtain⟨rfl,rfl,_,hp⟩:=h;rw[List.findIdx?_map,List.any_map,List.find?_map];show((Z.findIdx? λx=>x.id==id)=O/\(Z.any λx=>x.id==id)=false/\(Z.find? λx=>x.id==id).map Zu.su=O)\/∃i z,Z[i]?=G z/\z.id=id/\(Z.findIdx? λx=>x.id==id)=G i/\(Z.any λx=>x.id==id)=true/\(Z.find? λx=>x.id==id).map Zu.su=G z.su
 cases hf:Z.findIdx? (λx=>x.id==id) with
 | none=>
  rw[sg]at hf;refine Am ⟨rfl,oz.2 λx e=>by simpa using hf x e, ?_⟩;rw[List.find?_eq_none.2 λx e=>by simpa using hf x e];rfl
 | some i=>
  obtain⟨f,o,r⟩:=ib.1 hf;refine An ⟨i,Z[i],ag f,by simpa using o,rfl,mh.2 ⟨Z[i],fm f,o⟩, ?_⟩
  have:Z.find? (λx=>x.id==id)=G Z[i]:=by
   rw[List.find?_eq_some_iff_getElem];exact⟨o,i,f,rfl,λj q=>by simpa using r j q⟩
  rw[this];rfl
theorem vru{Z:List Zu}(hp:Z.Pairwise λa b=>a.id<b.id){z:Zu}(e:Z[i]?=G z):vhc (Z.map Zu.su) z.id=(Z.take i++Z.drop (i+1)).map Zu.su:=by
 have:=vhd (L:=Z.map Zu.su) (nt.2 hp) (i:=i) (x:=z.su) (by rw[cm,e];rfl);rw[show z.su.id=z.id from rfl]at this;rw[<-this,dq,oe,og]
theorem vnd{Z:List Zu}(h:ZRel L R n Z)(id:Int):(yB L id).2=(vbt R id).2/\∃Z',ZRel (yB L id).1 (vbt R id).1 n Z':=by
 have u:=h;rcases h.find id with⟨f,e,_⟩|⟨i,z,q,rfl,f,e,_⟩;unfold yB vbt;rw[f,e];exact⟨rfl,Z,u⟩;obtain⟨rfl,rfl,s,hp⟩:=h;unfold yB vbt;rw[f,e,bo rfl]
 have o:(Z.take i++Z.drop (i+1)).Sublist Z:=by
  have:=(List.drop_sublist_drop_left Z (show i<=i+1 by omega)).append_left (Z.take i);rwa [fh]at this
 exact⟨rfl,Z.take i++Z.drop (i+1),vru hp q,by rw[dq,oe,og],λx r=>s x (o.subset r),hp.sublist o⟩
theorem vc9(ms:List Mg):∀k,k<=ms.length->∀j,j<k->(ms.getD j ⟨0,0⟩).pri<=(ms.getD (xp ms k) ⟨0,0⟩).pri/\(j<xp ms k->(ms.getD j ⟨0,0⟩).pri<(ms.getD (xp ms k) ⟨0,0⟩).pri):=by
 intro k
 induction k with
 | zero=>intro _ j f;omega
 | succ k ih=>
  intro q j f;rw[xp]
  by_cases T9:k=0
  .subst T9
   obtain rfl:j=0:=ub;rw[ak (by show ¬(ms.getD 0 _).pri<(ms.getD 0 _).pri;omega)];exact⟨rq _,λh=>by exact absurd h (Nat.not_lt_zero _)⟩
  have r:=ih ub (xp ms k) (qc2 ms k ub)
  split
  rename_i o
  by_cases e:j=k
  subst e;exact⟨rq _,λh=>ub⟩;have:=(ih ub j ub).1;exact⟨ub,λ_=>ub⟩;rename_i o
  by_cases e:j=k
  subst e;have:=qc2 ms j ub;exact⟨ub,λh=>ub⟩;exact ih ub j ub
theorem vcy{b:Nat}{x:Mg}(h:ms[b]?=G x):ms.Perm (x::(ms.take b++ms.drop (b+1))):=by
 obtain⟨o,f⟩:=aj.1 h
 have e:ms=ms.take b++x::ms.drop (b+1):=by
  have:=cj o;rw[f]at this;rw[<-this,fh]
 exact(List.Perm.of_eq e).trans List.perm_middle
theorem vnb{z:Zu}(h:ZOk n z)(N:z.q.length≠0):qnf z.hs=(z.q.getD (xp z.q z.q.length) ⟨0,0⟩).K/\HeapL (qec z.hs)/\(qec z.hs).Perm (qms z.q):=by
 have A:=qc2 z.q z.q.length ub;obtain⟨b,q⟩:=it (xp z.q z.q.length);obtain⟨x,r⟩:∃x,z.q[b]?=G x:=⟨_,ag (by rw[<-q];exact A)⟩;have y:z.q.getD b ⟨0,0⟩=x:=by rw[bi,r];rfl
 have J:b<z.q.length:=by rw[<-q];exact A
 have K:∀a∈z.q.take b++z.q.drop (b+1),bef x a=true:=by
  intro a o;rw[qfu];have u:=vc9 z.q z.q.length ui;rw[q,y]at u;rcases cr.1 o with o|o;obtain⟨j,f⟩:=dd o;rw[ll]at f
  split at f
  rename_i s;have:=(u j ub).2 s;rw[bi,f]at this;exact Am this;cases f;obtain⟨j,f⟩:=dd o;rw[io]at f;have D:=(aj.1 f).1;have C:=(u (b+1+j) D).1;rw[bi,f]at C;have B:=ed.1 h.up b (b+1+j) J D ub;rw[(aj.1 r).2,(aj.1 f).2]at B;have M:a.pri<=x.pri:=C
  by_cases e:a.pri=x.pri
  exact An ⟨e.symm,B⟩;exact Am ub
 obtain⟨I,H,E⟩:=qyn h.hp (h.pm.trans (vcy r)) K;refine⟨?_,H, ?_⟩;rw[q,y,qnf,I];rfl;unfold qms;rw[q];exact E
theorem vqo{Z:List Zu}(h:ZRel L R n Z)(id:Int):(yT L id).2=(kM R id).2/\∃Z',ZRel (yT L id).1 (kM R id).1 n Z':=by
 have H:=h;rcases h.find id with⟨A,_,u⟩|⟨i,z,o,rfl,A,_,u⟩;unfold yT kM;rw[A,u];exact⟨rfl,Z,H⟩;obtain⟨rfl,rfl,r,hp⟩:=h;have q:=r z (bg o);have Q:=va6 (L:=Z.map Zu.su) (nt.2 hp) (i:=i) (x:=z.su) (by rw[cm,o];rfl);have O:(Z.map Zu.ru)[i]?=G z.ru:=by rw[cm,o];rfl
 have N:yT (Z.map Zu.su) z.id=((Z.map Zu.su).map (vf2 z.id),qnf z.hs,0):=by unfold yT;rw[u];rfl
 have M:kM (Z.map Zu.ru) z.id=if z.q.length=0 then(Z.map Zu.ru,0,0) else((Z.map Zu.ru).set i (z.ru.ms' (qms z.q)),(z.q.getD (xp z.q z.q.length) ⟨0,0⟩).K,0):=by
  unfold kM;rw[A];show(match (Z.map Zu.ru)[i]? with|none=>_|some x=>_)=_;rw[O];rfl
 rw[N,M];have C:(Z.map Zu.su).map (vf2 z.id)=(Z.map Zu.su).set i ⟨z.id,z.co,qec z.hs⟩:=Q.symm
 by_cases h0:z.q.length=0
 rw[bo h0];have hq:z.q=[]:=de h0;have s:z.hs=[]:=by have:=q.pm;rw[hq]at this;exact this.eq_nil
 refine⟨by rw[s];rfl,Z, ?_,rfl,r,hp⟩;rw[C,s];apply ix;intro j;rw[fq]
 split
 rename_i e;subst e;rw[cm,o];simp[(aj.1 o).1,Zu.su,s,qec];rfl;rw[ak h0];obtain⟨K,J,I⟩:=vnb q h0
 have B:(qms z.q).Sublist z.q:=by
  unfold qms;have:=(List.drop_sublist_drop_left z.q (show xp z.q z.q.length<=xp z.q z.q.length+1 by omega)).append_left (z.q.take (xp z.q z.q.length));rwa [fh]at this
 refine⟨by rw[K],Z.set i ⟨z.id,z.Q,z.co,qec z.hs,qms z.q⟩, ?_, ?_,λy D=>?_, ?_⟩;rw[C,ny];rfl;rw[ny];rfl;rcases lh D with e|rfl;exact r y e;exact⟨q.rd,q.tl,J,I,q.up.sublist B,λm E=>q.le m (B.subset E),bs B.length_le q.l6⟩;have:=(nt (R:=λa b:Int=>a<b) (f:=Zu.id)).2 hp
 have e:(Z.set i ⟨z.id,z.Q,z.co,qec z.hs,qms z.q⟩).map Zu.id=Z.map Zu.id:=by
  rw[ny];apply ix;intro j;rw[fq]
  split
  rename_i e;subst e;rw[cm,o];simp[(aj.1 o).1];rfl
 rw[<-e]at this;exact nt.1 this
section
attribute [local go_sem ↓] vsk
theorem qza(h:RBr w F mb n R):
  ua 39 #[Ag (G ⟨mb,0,O⟩)] w λe w'=>∃v,e=Ak v/\ZsAt w' w.1.size v (R.map Ru.id)/\Xb w w':=by
 obtain⟨_,Y,sv,l,M,K,_⟩:=h;have cF:R.map Ru.id=l.map Rs.id:=by rw[<-K,lq];rfl
 rw[cF];have H:=qd M;obtain⟨a,c,rfl⟩:=qdw M.row;obtain⟨m,D⟩:=it l.length;have r:=qd D;have X:m<=8:=by rw[<-K,cd]at Y;omega
 rw[D]at H;go_enter func39,ntmps39
 go_wp2
 go_loopw [3,4] (λo i wr=>∃(k:Nat) (q:Option Addr) (f:Nat),k<=m/\i=I J k/\o=C q k f/\Hid (ZsAt wr w.1.size (C q k f) ((l.take k).map Rs.id))/\Hid (Xb w wr)) (λ_ i _=>m - (intOf i).toNat)
 exact⟨0,O,0,bt _,rfl,rfl,qd (ZsAt.nil _ _),qd uj⟩;obtain⟨k,q,f,hk,rfl,rfl,u,s⟩:=hrel;have Q:=(q9 H).below s;obtain⟨c0,c1,cz⟩:=Q.cells
 by_cases A1:k<m
 .obtain⟨x,hx⟩:∃x,l[k]?=G x:=⟨_,ag (uu (q9 r))⟩
  obtain⟨g,c',hv,hg,e0,e1,e2,ez⟩:=Q.sub hx;rw[q9 r]at hv;simp at hv;obtain⟨rfl,rfl⟩:=hv;have E:((l.take k).map Rs.id).length=k:=by rw[cd,cw];have:=q9 r;omega
  have B:=(q9 s).size;obtain⟨Z,I9,A,O3,N,T,_⟩:=(q9 u).app B x.id (by rw[E];omega) 50 wr.1.size rfl rfl;rw[E]at O3 N
  have y:Hid (ZsAt A w.1.size (C (G ⟨Z,0,O⟩) (k+1) I9) ((l.take (k+1)).map Rs.id)):=qd (by
   rw[dn,hx,dq];exact q9 N)
  have S:Hid (Xb w A):=qd (s.grown T B λj U=>(u.lt j U).1)
  go_wp2
  go_roundw
  case rel=>exact⟨k+1,_,_,ub,by go_num,rfl,y,S⟩
  simp[intOf];omega
 have fV:=uq k m
 have y:Hid (ZsAt wr w.1.size (C q k f) (l.map Rs.id)):=qd (by
  have e:l.take k=l:=fo (uu (q9 r));have:=q9 u
  rw[e]at this;exact this)
 go_wp2
 go_ret;exact⟨_,rfl,q9 y,q9 s⟩
end
theorem MbAt.grown{l:List Rs}(h:MbAt w mb n sv l)(o:ZsAt w base v zs)(r:w.grownBy w' v.ownBlock):MbAt w' mb n sv l:=
 h.same λk f=>r.block k (h.foot_lt f) λe=>by
  rcases f with rfl|f|⟨x,q,f⟩
  .exact vW o h.blk ue e.symm
  .exact zC h.row o ue f e.symm
  .exact zC (h.qs x q) o ue f e.symm
theorem MbAt.count{l:List Rs}(h:MbAt w mb n sv l)(o:Int):MbAt (w.setCell ⟨mb,1,O⟩ (I J o)) mb o sv l:=by
 have r:∀k,k≠mb->(w.setCell ⟨mb,1,O⟩ (I J o)).1[k]?=w.1[k]?:=λk f=>au _ ⟨mb,1,O⟩ _ k (by show k≠mb;exact f)
 refine⟨?_,qm h.row λk f=>r k (λe=>by subst e;exact vW h.row h.blk ue f),λx q=>qm (h.qs x q) λk f=>r k (λe=>by subst e;exact vW (h.qs x q) h.blk ue f),h.dis⟩;rw[setCell_eq_setRow w mb 1 _ _ (0,0) _ h.blk];exact setRow_heap w mb _ _ _ (0,0) h.blk
def qj8(ps:List Pr)(x:Ru):Bool:=decide ((qay (BS x.Q) ps).val=bV true)
def vf8(ps:List Pr)(m:Mg)(x:Ru):Ru:=if qj8 ps x=true/\x.ms.length<6 then x.ms' (x.ms++[m]) else x
def xQ(ps:List Pr)(m:Mg)(R:List Ru)(k:Nat):List Ru:=(R.take k).map (vf8 ps m)++R.drop k
def gk(ps:List Pr)(R:List Ru)(k:Nat):List Int:=((R.take k).filter (qj8 ps)).map Ru.id
def zV(ps:List Pr)(R:List Ru)(k:Nat):List Int:=((R.take k).filter λx=>qj8 ps x&&decide (6<=x.ms.length)).map Ru.id
theorem qts{x:Ru}(e:R[k]?=G x):xQ ps m R (k+1)=(xQ ps m R k).set k (vf8 ps m x)/\(xQ ps m R k)[k]?=G x:=by
 have o:=(aj.1 e).1;have f:((R.take k).map (vf8 ps m)).length=k:=by rw[cd,cw];omega
 have hd:R.drop k=x::R.drop (k+1):=by rw[cj o,(aj.1 e).2]
 refine⟨?_, ?_⟩;unfold xQ;rw[dn,e,dq,hd,nh _ _ ub,f,ld];simp;unfold xQ;rw[hd,da ub,f,ld];rfl
theorem qto{x:Ru}(e:R[k]?=G x):gk ps R (k+1)=gk ps R k++(if qj8 ps x=true then[x.id] else[]):=by
 unfold gk;rw[dn,e,List.filter_append,dq]
 congr 1
 cases h:qj8 ps x<;>simp[h]
theorem qp6{x:Ru}(e:R[k]?=G x):zV ps R (k+1)=zV ps R k++(if qj8 ps x=true/\6<=x.ms.length then[x.id] else[]):=by
 unfold zV;rw[dn,e,List.filter_append,dq]
 congr 1
 cases h:qj8 ps x<;>by_cases h6:6<=x.ms.length<;>simp[h,h6]
theorem qzc(ps:List Pr)(R:List Ru)(k:Nat):(gk ps R k).length<=k/\(zV ps R k).length<=k:=by
 have h:∀f:Ru->Bool,((R.take k).filter f).length<=k:=λf=>bs (List.length_filter_le _ _) (by rw[cw];omega)
 unfold gk zV;rw[cd,cd];exact⟨h _,h _⟩
theorem vki{n:Nat}(h:W.ownsRow base 147 2 v ms.length (qU ms))(T:base<=W.1.size)(s:ms.length=n)(U:n<=6)(m:Mg)(H:Nat)(A:W.1.size=H):
  ∃g c w',(kH #[131,131] 131 #[v,C (G ⟨H,0,O⟩) 1 1]).run prog (W.alloc (Al #[I J m.pri,I J m.K] 147)).drew=.ok (C (G ⟨g,0,O⟩) (n+1) c) w'/\Hid (w'.ownsRow base 147 2 (C (G ⟨g,0,O⟩) (n+1) c) (n+1) (qU (ms++[m])))/\Hid (W.grownBy w' v.ownBlock)/\Hid (v.ownBlock=G g\/W.1.size<=g)/\Hid (H<w'.1.size):=by
 subst A s;obtain⟨q,u,M,Q,N⟩:=info_parts qgh;have y:(W.alloc (Al #[I J m.pri,I J m.K] 147)).drew.ownsRow base 147 2 v ms.length (qU ms):=World.ownsRow.alloc h _;have o:(W.alloc (Al #[I J m.pri,I J m.K] 147)).drew.1[W.1.size]?=G (Al #[I J m.pri,I J m.K] 147 (0,0)):=heap_alloc_new W _;have X:(W.alloc (Al #[I J m.pri,I J m.K] 147)).drew.1.size=W.1.size+1:=by show(W.alloc _).1.size=_;simp
 obtain⟨g,c,w',r,E,f,D,_⟩:=run_append_lies (P:=prog) (W.alloc (Al #[I J m.pri,I J m.K] 147)).drew 131 131 base 147 q _ 2 16 underlying131 u M Q N rfl ub v ms.length (qU ms) y ⟨W.1.size,0,O⟩ 1 1 [I J m.pri,I J m.K] rfl (World.news_of_block (cs:=#[I J m.pri,I J m.K]) (t:=147) (fr:=(0,0)) o) (by simp[Value.oneCell']) ub (by unfold maxLen;omega) ub ub _ rfl;have S:=f.size;refine⟨g,c,w',r,qd (by rw[qdb];exact E),qd ⟨f.os,f.tape,f.output,ub,λk K B=>?_⟩,qd ?_,qd ub⟩;rw[f.block k ub B];exact(gZ W _).block k K;rcases D with e|e;exact Am e
 right;omega
structure RpAt(w wr:Ao)(F:Nat->Prop)(mb:Nat)(n:Int)(sv:Ap)(R':List Ru)(mv dv:Ap)(ms ds:List Int):Prop where
 mb:∃l,MbAt wr mb n sv l/\l.map Rs.ru=R'/\∀k,qfr mb sv l k->upF F w wr k
 gr:Grow F w wr
 me:ZsAt wr w.1.size mv ms
 dr:ZsAt wr w.1.size dv ds
 ne:∀k,mv.ownBlock=G k->dv.ownBlock≠G k
section
variable {w wr w':Ao} {F:Nat->Prop} {mb:Nat} {n:Int} {sv mv dv:Ap} {R':List Ru} {ms ds:List Int}
theorem RpAt.below(h:RpAt w wr F mb n sv R' mv dv ms ds)(f:Xb wr w'):RpAt w w' F mb n sv R' mv dv ms ds:=by
 obtain⟨l,u,s,r⟩:=h.mb;have o:=h.gr.size;exact⟨⟨l,u.below f,s,λk q=>(r k q).imp id λe=>⟨e.1,aq e.2 f.size⟩⟩,⟨f.os.trans h.gr.os,f.tape.trans h.gr.tape,f.output.trans h.gr.output,bs o f.size,λk a b=>(f.block k ub).trans (h.gr.block k a b)⟩,qE h.me f ui,qE h.dr f ui,h.ne⟩
theorem RpAt.grow(h:RpAt w wr F mb n sv R' mv dv ms ds)(hv:ZsAt wr w.1.size v zs)(f:wr.grownBy w' v.ownBlock):(∃l,MbAt w' mb n sv l/\l.map Rs.ru=R'/\∀k,qfr mb sv l k->upF F w w' k)/\Grow F w w':=by
 obtain⟨l,s,r,q⟩:=h.mb;have u:=h.gr.size;have y:=f.size;exact⟨⟨l,s.grown hv f,r,λk o=>(q k o).imp id λe=>⟨e.1,aq e.2 f.size⟩⟩,f.os.trans h.gr.os,f.tape.trans h.gr.tape,f.output.trans h.gr.output,ub,λk a b=>(f.block k ub λe=>uu ((hv.lt k e.symm).1)).trans (h.gr.block k a b)⟩
theorem RpAt.met(h:RpAt w wr F mb n sv R' mv dv ms ds)(q:ZsAt w' w.1.size v' zs)(o:wr.grownBy w' mv.ownBlock)(r:∀k,v'.ownBlock=G k->mv.ownBlock=G k\/wr.1.size<=k):RpAt w w' F mb n sv R' v' dv zs ds:=by
 obtain⟨a,b⟩:=h.grow h.me o;refine⟨a,b,q,qm h.dr λk f=>o.block k (h.dr.lt k f).2 λe=>h.ne k e.symm f,λk f hd=>?_⟩;rcases r k f with e|e;exact h.ne k e hd;have:=(h.dr.lt k hd).2;omega
theorem RpAt.full(h:RpAt w wr F mb n sv R' mv dv ms ds)(q:ZsAt w' w.1.size v' zs)(o:wr.grownBy w' dv.ownBlock)(r:∀k,v'.ownBlock=G k->dv.ownBlock=G k\/wr.1.size<=k):RpAt w w' F mb n sv R' mv v' ms zs:=by
 obtain⟨a,b⟩:=h.grow h.dr o;refine⟨a,b,qm h.me λk f=>o.block k (h.me.lt k f).2 λe=>h.ne k f e.symm,q,λk f hd=>?_⟩;rcases r k hd with e|e;exact h.ne k f e;have:=(h.me.lt k f).2;omega
theorem RpAt.push{m c q qc:Nat}{x:Ru}(h:RpAt w wr F mb n (C (G ⟨g,0,O⟩) m c) R' mv dv ms ds){l:List Rs}{y:Rs}(u:MbAt wr mb n (C (G ⟨g,0,O⟩) m c) l)(J:l.map Rs.ru=R')(r:∀k,qfr mb (C (G ⟨g,0,O⟩) m c) l k->upF F w wr k)(B:l[i]?=G y)(K:y.ru=x)(o:wr.grownBy w' y.qv.ownBlock)
  (hq:w'.ownsRow 0 147 2 (C (G ⟨q,0,O⟩) ms'.length qc) ms'.length (qU ms')) (I:y.qv.ownBlock=G q\/wr.1.size<=q):RpAt w (w'.setCell ⟨g,i * 3+2,O⟩ (C (G ⟨q,0,O⟩) ms'.length qc)) F mb n (C (G ⟨g,0,O⟩) m c) (R'.set i (x.ms' ms')) mv dv ms ds:=by
 have N:(w'.setCell ⟨g,i * 3+2,O⟩ (C (G ⟨q,0,O⟩) ms'.length qc)).1.size=w'.1.size:=uc;have Q:=h.gr.size;have S:=o.size;have A:=bg B
 have D:∀k,(C (G ⟨q,0,O⟩) ms'.length qc).ownBlock=G k->y.qv.ownBlock=G k\/wr.1.size<=k:=λk f=>by
  have e:q=k:=by simpa [Value.ownBlock]using f
  subst e;exact I
 have E:∀k,k≠g->(w'.setCell ⟨g,i * 3+2,O⟩ (C (G ⟨q,0,O⟩) ms'.length qc)).1[k]?=w'.1[k]?:=λk f=>au _ ⟨g,i * 3+2,O⟩ _ k (by show k≠g;exact f)
 have H:∀{v:Ap} {zs:List Int},ZsAt wr w.1.size v zs->ZsAt (w'.setCell ⟨g,i * 3+2,O⟩ (C (G ⟨q,0,O⟩) ms'.length qc)) w.1.size v zs:=λhv=>qm hv λk f=>by
  rw[E k (λe=>by subst e;exact zC u.row hv ue rfl f)];exact o.block k (hv.lt k f).2 λe=>zC (u.qs y A) hv ue e.symm f
 refine⟨⟨_,u.turn B o hq D,by rw[ny,J,<-K];rfl,λk f=>?_⟩,⟨o.os.trans h.gr.os,o.tape.trans h.gr.tape,o.output.trans h.gr.output,ub,λk a b=>?_⟩,H h.me,H h.dr,h.ne⟩;have up:upF F w wr k->upF F w (w'.setCell ⟨g,i * 3+2,O⟩ (C (G ⟨q,0,O⟩) ms'.length qc)) k:=λe=>e.imp id λe=>⟨e.1,ub⟩
 rcases f with rfl|f|⟨z,M,f⟩;exact up (r _ (Am rfl));exact up (r _ (An (Am f)));obtain⟨j,s⟩:=dd M;rw[fq]at s
 split at s
 simp at s;obtain⟨_,rfl⟩:=s;rcases D k f with e|e;exact up (r _ (An (An ⟨y,A,e⟩)));exact An ⟨ub,uu ((hq.lt k f).2)⟩;exact up (r _ (An (An ⟨z,bg s,f⟩)))
 rw[E k (λe=>by
  subst e;rcases r k (An (Am rfl)) with e|e;exact b e
  omega)]
 rw[o.block k ub λe=>by
  rcases r _ (An (An ⟨y,A,e.symm⟩)) with e|e;exact b e
  omega]
 exact h.gr.block k a b
end
section
attribute [local go_sem ↓] vsk
abbrev vAs(x:V):Array Ap:=#[I J x.A,I J x.K,Y (BS x.V)]
theorem vrc(x y:V)(w:Ao):(binOp .neq 57 (vV x) (vV y)).run prog w=.ok (Ah (!decide (x=y))) w:=by
 obtain⟨k,n,s⟩:=x;obtain⟨h,f,e⟩:=y;simp only[vV,V.mk.injEq]
 by_cases h1:k=h
 .by_cases h2:n=f
  .by_cases h3:s=e
   .subst h1 h2 h3
    simp[go_sem]
   simp[go_sem,h1,h2,h3,qP]
  simp[go_sem,h1,h2]
 simp[go_sem,h1]
def qa9(R:List Ru)(n pri:Int)(ps:List Pr):(List Ru×List Int×List Int)×Int×Int:=if 0<=pri/\pri<=9/\ym ps=true then((xQ ps ⟨pri,n+1⟩ R R.length,gk ps R R.length,zV ps R R.length),n+1,0) else((R,[],[]),n,7)
theorem vfw(h:RBr w F mb n R)(h6:∀x∈R,x.ms.length<=6)(ht:∀x∈R,x.Q.length<=140737488355328)(hn:0<=n/\n<4611686018427387904)(pri:Int){ev:Ap}(C8:∀w',Grow F w w'->EvIn w' ev ps)
  (HV:∀W,EvIn W ev ps->ut 33 #[ev] W (Ah (ym ps)))
  (HE:∀W (s:tu),s.length<=140737488355328->EvIn W ev ps->ut 22 #[Y (BS s),ev] W (Aj #[vV (qay (BS s) ps).val,I J (qay (BS s) ps).errno,I J (qay (BS s) ps).M]))
  (Q:Ending->Ao->Prop) (hQ:∀w' mv fv,RBr w' (upF F w w') mb (qa9 R n pri ps).2.1 (qa9 R n pri ps).1.1->Grow F w w'->ZsAt w' w.1.size mv (qa9 R n pri ps).1.2.1->ZsAt w' w.1.size fv (qa9 R n pri ps).1.2.2->Q (Ak (Aj #[mv,fv,I J (qa9 R n pri ps).2.2])) w') :
  ua 47 #[Ag (G ⟨mb,0,O⟩),I J pri,ev] w Q:=by
 obtain⟨hF,h8,sv,l,hB,hL,C3⟩:=h;obtain⟨ea,en,ec,rfl⟩:=(C8 w (Grow.same F w)).slice;have EV:=qd (HV w (C8 w (Grow.same F w)));obtain⟨c0,c1,cz⟩:=hB.cells;have A1:=hB.lt;have hHF:=qd hF
 by_cases E9:0<=pri/\pri<=9/\ym ps=true
 .obtain⟨TH,hp9,KS⟩:=E9
  have A9:qa9 R n pri ps=((xQ ps ⟨pri,n+1⟩ R R.length,gk ps R R.length,zV ps R R.length),n+1,0):=by rw[qa9,bo ⟨TH,hp9,KS⟩]
  rw[A9]at hQ;rw[KS]at EV;have GG:decide (9<pri)=false:=db ub;obtain⟨a,c,rfl⟩:=qdw hB.row;obtain⟨m,hm⟩:=it l.length;have DL:R.length=m:=by rw[<-hL,cd,hm]
  rw[hm]at c0;rw[DL]at h8 hQ
  have S0:Hid (∀w1,Xb w w1->RpAt w (w1.setCell ⟨mb,1,O⟩ (I J (n+1))) F mb (n+1) (C a m c) (xQ ps ⟨pri,n+1⟩ R 0) (C O 0 0) (C O 0 0) (gk ps R 0) (zV ps R 0)):=qd λw1 f=>by
   have B8:=f.size;have V4:(w1.setCell ⟨mb,1,O⟩ (I J (n+1))).1.size=w1.1.size:=uc;refine⟨⟨l, ?_,by rw[hL];simp[xQ],λk S=>Am (C3 k (by rw[hm];exact S))⟩,⟨f.os,f.tape,f.output,ub,λk h1 h2=>?_⟩,ZsAt.nil _ _,ZsAt.nil _ _,λk S=>by simp[Value.ownBlock]at S⟩;have:=(hB.below f).count (n+1);rw[hm]at this;exact this;rw[au _ ⟨mb,1,O⟩ _ k (by show k≠mb;rintro rfl;exact h2 (C3 _ (Am rfl)))];exact f.block k h1
  have HQ:=qd hQ;have HH:=qd HE;have rQ:=qd C8;have HT:=qd ht;have H6:=qd h6;have MW:=qd DL;have uO:Hid (∀w1,Xb w w1->Xc w1 mb 1 (I J n)/\(Xf w1 mb)/\mb<w1.1.size):=qd λw1 f=>⟨((qk f).1 _ _ A1).trans c1,λj=>((qk f).2 _ _ A1).trans (cz j),aq A1 f.size⟩
  obtain⟨eO,t9⟩:=hn;go_enter func47,ntmps47
  go_wp2_with(go_at_call 33;refine be EV λw1 f=>?_;obtain⟨c1,cz,dW⟩:=q9 uO w1 f;have SS:=qd (S0 w1 f))
  go_loopw [10,11,12] (λmv dv i wr=>∃(k:Nat),k<=m/\i=I J k/\Hid (RpAt w wr F mb (n+1) (C a m c) (xQ ps ⟨pri,n+1⟩ R k) mv dv (gk ps R k) (zV ps R k))) (λ_ _ i _=>m - (intOf i).toNat)
  exact⟨0,bt _,rfl,SS⟩;obtain⟨k,S,rfl,H⟩:=hrel;obtain⟨l',hM,u,T⟩:=(q9 H).mb
  have hl'm:l'.length=m:=by
   have e:(xQ ps ⟨pri,n+1⟩ R k).length=m:=by unfold xQ;rw[ce,cd,cw,dj];have:=q9 MW;omega
   rw[<-u,cd]at e;exact e
  obtain⟨d0,d1,dz⟩:=hM.cells
  by_cases fV:k<m
  .obtain⟨x,hx⟩:∃x,R[k]?=G x:=⟨_,ag (uu (q9 MW))⟩
   obtain⟨uV,mL⟩:=qts (ps:=ps) (m:=⟨pri,n+1⟩) hx
   obtain⟨y,o,A⟩:∃y,l'[k]?=G y/\y.ru=x:=by
    rw[<-u,cm]at mL
    cases e:l'[k]? with
    | none=>rw[e]at mL;cases mL
    | some y=>rw[e]at mL;exact⟨y,rfl,by simpa using mL⟩
   have aK:=bg hx;have RW:y.Q=x.Q:=by rw[<-A];rfl
   have ZZ:y.id=x.id:=by rw[<-A];rfl
   have K:y.ms=x.ms:=by rw[<-A];rfl
   obtain⟨g,c',hv,hg,e0,e1,e2,ez⟩:=hM.sub o;rw[hl'm]at hv;simp at hv;obtain⟨rfl,rfl⟩:=hv;have RE:=qd (HH wr y.Q (by rw[RW];exact q9 HT x aK) (rQ wr H.gr));obtain⟨r,i6⟩:=it ((qay (BS y.Q) ps).val);obtain⟨er,her⟩:∃x,(qay (BS y.Q) ps).errno=x:=⟨_,rfl⟩;obtain⟨pl,Q6⟩:∃x,(qay (BS y.Q) ps).M=x:=⟨_,rfl⟩;rw[i6,her,Q6]at RE;have hmB:qj8 ps x=decide (r=bV true):=by unfold qj8;rw[<-RW,i6]
   have JY:=qto (ps:=ps) hx;have tM:=qp6 (ps:=ps) hx;have hx6:=q9 H6 x aK;have dN:=qzc ps R k;have ex:=λw=>vrc r (bV true) w
   simp only[vV]at ex RE;obtain⟨q,hq⟩:=it x.ms.length;have fA:wr.cell? ⟨g,k * 3+2,O⟩=G (C y.qa q y.qc):=by rw[e2,<-hq,<-K];rfl
   have eK:Hid (l'[k]?=G y/\y.ru=x/\(∀k,qfr mb (C (G ⟨g,0,O⟩) m c) l' k->upF F w wr k)/\l'.map Rs.ru=xQ ps ⟨pri,n+1⟩ R k/\y.ms=x.ms/\x.ms.length=q):=qd ⟨o,A,T,u,K,hq⟩;have XX:=qd hM;rw[hq]at tM hx6;have NC:=qd JY;have IE:=qd tM;have GZ:=qd uV;have HML:=qd dN;have B:=qd hmB;have QG:=qd ZZ;clear o A T u K hq hM JY tM uV dN hmB mL hx aK RW ZZ
   by_cases hb:r=bV true
   .have hd:decide (r=bV true)=true:=di hb
    rw[hd]at B;simp only[hd,ow]at ex;clear hb hd
    go_wp2_with(go_at_call 22;refine be RE λw1 f=>?_;have D6:=qd (f.alloc f.size (Al (vAs r) 57)).drew;have vx:∀i,(w1.alloc (Al (vAs r) 57)).cell? ⟨w1.1.size,i,O⟩=(vAs r)[i]?:=(λi=>uc))
    go_region_held3 (λW=>∀i,W.cell? ⟨w1.1.size,i,O⟩=(vAs r)[i]?) (first|with_reducible assumption|exact vx) ((go_at_call 69;refine be (vQ _ _) λw2 A3=>?_;have sJ:∀i,w2.cell? ⟨w1.1.size,i,O⟩=(vAs r)[i]?:=(λi=>((qk A3).1 _ i (by show _<(w1.alloc _).1.size;simp)).trans (vx i));have U0:=qd (qg D6 A3);simp only[vV]))
    obtain⟨o,A,T,u,K,hq⟩:=q9 eK;have GR:=(q9 XX).below U0;have GW:=(q9 H).below U0;have D4:=GW.gr.size;obtain⟨M,hMl⟩:=it ((gk ps R k).length);obtain⟨g5,I9,X,iC,sN,nB,XW⟩:=GW.me.app D4 y.id (uu (q9 HML)) 50 w2.1.size rfl rfl;have D:=GR.grown GW.me nB
    have N:RpAt w X F mb (n+1) (C (G ⟨g,0,O⟩) m c) (xQ ps ⟨pri,n+1⟩ R k) (C (G ⟨g5,0,O⟩) ((gk ps R k).length+1) I9) u11 (gk ps R (k+1)) (zV ps R k):=GW.met (by rw[q9 NC,q9 B,bo rfl,<-q9 QG];exact q9 sN) nB (λj Z=>by
     have e:g5=j:=by simpa [Value.ownBlock]using Z
     subst e;exact q9 XW)
    have nE:=N.gr.size;rw[hMl]at iC N;obtain⟨b0,b1,bz⟩:=GR.cells;obtain⟨_,_,iG,K5,f0,_,f2,_⟩:=GR.sub o;obtain⟨a0,a1,az⟩:=D.cells;obtain⟨_,_,OF,tK,h0,_,h2,hz⟩:=D.sub o;simp at iG OF;obtain⟨rfl,_,rfl⟩:=iG;obtain⟨rfl,_,rfl⟩:=OF;have h2':X.cell? ⟨g,k * 3+2,O⟩=G (C y.qa q y.qc):=by rw[h2,<-hq,<-K];rfl
    have SB5:=qd N;have hgr5:=(q9 nB).size
    by_cases h66:6<=q
    .have WJ:(6:Int)<=(q:Int):=ub
     obtain⟨g6,U5,w6,cD,MJ,U,MZ⟩:=N.dr.app nE y.id (uu (q9 HML)) 50 X.1.size rfl rfl
     have XB:Hid (RpAt w w6 F mb (n+1) (C (G ⟨g,0,O⟩) m c) (xQ ps ⟨pri,n+1⟩ R (k+1)) (C (G ⟨g5,0,O⟩) (M+1) I9) (C (G ⟨g6,0,O⟩) ((zV ps R k).length+1) U5) (gk ps R (k+1)) (zV ps R (k+1))):=qd (by
      have e1:xQ ps ⟨pri,n+1⟩ R (k+1)=xQ ps ⟨pri,n+1⟩ R k:=by
       rw[q9 GZ,vf8,ak (by rw[hq];omega)];apply ix;intro j;rw[fq]
       split
       rename_i e;subst e;rw[<-u,cm,o,<-A];simp[(aj.1 o).1];rfl
      rw[e1]
      exact N.full (by rw[q9 IE,q9 B,bo ⟨rfl,h66⟩,<-q9 QG];exact q9 MJ) U (λj Z=>by
       have e:g6=j:=by simpa [Value.ownBlock]using Z
       subst e;exact q9 MZ))
     clear N SB5 GW GR D o A T u K hq eK XX H NC IE GZ B sN nB XW MJ U MZ h2 f2 fA RE QG
     go_wp2
     go_roundw
     case rel=>exact⟨k+1,ub,by go_num,XB⟩
     simp[intOf];omega
    have WJ:¬(6:Int)<=(q:Int):=ub
    have hqs:X.ownsRow 0 147 2 (C y.qa q y.qc) x.ms.length (qU x.ms):=by
     have:=D.qs y (bg o);unfold Rs.qv at this;rw[K,hq]at this;rw[hq];exact this
    obtain⟨g6,U5,w6,cD,MJ,U,MZ,HL6⟩:=vki hqs (bt _) hq ub ⟨pri,n+1⟩ X.1.size rfl;have BH:y.qv=C y.qa q y.qc:=by unfold Rs.qv;rw[K,hq]
    have UB:(x.ms++[(⟨pri,n+1⟩:Mg)]).length=q+1:=by rw[ce,hq];rfl
    have XB:Hid (RpAt w (w6.setCell ⟨g,k * 3+2,O⟩ (C (G ⟨g6,0,O⟩) (q+1) U5)) F mb (n+1) (C (G ⟨g,0,O⟩) m c) (xQ ps ⟨pri,n+1⟩ R (k+1)) (C (G ⟨g5,0,O⟩) (M+1) I9) u11 (gk ps R (k+1)) (zV ps R (k+1))):=qd (by
     have e1:zV ps R (k+1)=zV ps R k:=by rw[q9 IE,ak ub,fw]
     have e2:xQ ps ⟨pri,n+1⟩ R (k+1)=(xQ ps ⟨pri,n+1⟩ R k).set k (x.ms' (x.ms++[⟨pri,n+1⟩])):=by rw[q9 GZ,vf8,bo ⟨q9 B,ub⟩]
     rw[e1,e2];have:=N.push (i:=k) (q:=g6) (qc:=U5) (ms':=x.ms++[⟨pri,n+1⟩]) D u (λj Z=>(T j Z).imp id λe=>⟨e.1,uu ((q9 U0).size)⟩) o A (by rw[BH];exact q9 U) (by rw[UB];exact q9 MJ) (by rw[BH];exact q9 MZ);rw[UB]at this
     exact this)
    have u1:Xc w6 g (k * 3+2) (C y.qa q y.qc):=(aw (w:=X) (a:=⟨g,k * 3+2,O⟩) (U.block g tK (λe=>zC (D.qs y (bg o)) D.row ue (by rw[BH];exact e.symm) rfl))).trans h2';have u2:Xf w6 g:=λj=>(cn (w:=X) (a:=⟨g,j,O⟩) (U.block g tK (λe=>zC (D.qs y (bg o)) D.row ue (by rw[BH];exact e.symm) rfl))).trans (hz j)
    have u3:g<w6.1.size:=aq tK U.size;clear N SB5 GW GR D o A T u K hq eK XX H NC IE GZ B sN nB XW MJ U MZ h2 f2 fA RE hqs BH UB QG
    go_wp2
    go_region
    go_wp2
    go_roundw
    case rel=>exact⟨k+1,ub,by go_num,XB⟩
    simp[intOf];omega
   have hd:decide (r=bV true)=false:=db hb;rw[hd]at B;simp only[hd,ry]at ex;clear hb hd
   have HP:Hid (xQ ps ⟨pri,n+1⟩ R (k+1)=xQ ps ⟨pri,n+1⟩ R k/\gk ps R (k+1)=gk ps R k/\zV ps R (k+1)=zV ps R k):=qd (by
    obtain⟨o,A,_,u,_⟩:=q9 eK;refine⟨?_,by rw[q9 NC,q9 B];simp,by rw[q9 IE,q9 B];simp⟩;rw[q9 GZ,vf8,q9 B,ak uc];apply ix;intro j;rw[fq]
    split
    rename_i e;subst e;rw[<-u,cm,o,<-A];simp[(aj.1 o).1]
    rfl)
   clear eK NC IE GZ B
   go_wp2_with(go_at_call 22;refine be RE λw1 f=>?_;have D6:=qd (f.alloc f.size (Al (vAs r) 57)).drew;have vx:∀i,(w1.alloc (Al (vAs r) 57)).cell? ⟨w1.1.size,i,O⟩=(vAs r)[i]?:=(λi=>uc);clear f)
   go_region_held3 (λW=>∀i,W.cell? ⟨w1.1.size,i,O⟩=(vAs r)[i]?) (first|with_reducible assumption|exact vx) ((go_at_call 69;refine be (vQ _ _) λw2 A3=>?_;have sJ:∀i,w2.cell? ⟨w1.1.size,i,O⟩=(vAs r)[i]?:=(λi=>((qk A3).1 _ i (by show _<(w1.alloc _).1.size;simp)).trans (vx i));have U0:=qd (qg D6 A3);clear A3;simp only[vV]))
   go_wp2
   go_roundw
   case rel=>exact⟨k+1,ub,by go_num,qd (by obtain⟨p1,p2,p3⟩:=q9 HP;rw[p1,p2,p3];exact H.below U0)⟩
   simp[intOf];omega
  have CB:k=m:=ub;have J9:=uq k m;have HR:Hid (RBr wr (upF F w wr) mb (n+1) (xQ ps ⟨pri,n+1⟩ R k)):=qd ⟨λj Z=>by rcases Z with e|e;have:=q9 hHF j e;have:=(q9 H).gr.size;omega;exact e.2,by rw[<-u,cd];omega,_,l',hM,u,T⟩;subst CB;have HQ2:=qd λmv fv=>q9 HQ wr mv fv HR H.gr
  clear hM u T HQ
  go_wp2
  refine tw ?_;exact q9 HQ2 _ _ H.me H.dr
 have A9:qa9 R n pri ps=((R,[],[]),n,7):=by rw[qa9,ak E9]
 rw[A9]at hQ;obtain⟨E,hE⟩:=it (ym ps);rw[hE]at EV E9;have HQ:Hid (∀w1,Xb w w1->Q (Ak (Aj #[C O 0 0,C O 0 0,I J 7])) w1):=qd λw1 f=>hQ w1 _ _ ⟨λk S=>by rcases S with e|e;have:=hF k e;have:=f.size;omega;exact e.2,h8,sv,l,hB.below f,hL,λk S=>Am (C3 k S)⟩ (Grow.of_below f) (ZsAt.nil _ _) (ZsAt.nil _ _)
 clear hQ hB hL C3 A9 HE HV C8 c0 c1 cz h6 ht hE
 have I6:E=false\/(E=true/\pri<0)\/(E=true/\¬pri<0/\9<pri):=by
  cases E with
  | false=>exact Am rfl
  | true=>
   right
   by_cases e:pri<0
   exact Am ⟨rfl,e⟩
   exact An ⟨rfl,e,by
    by_cases e9:9<pri
    exact e9
    exact absurd ⟨ub,ub,rfl⟩ E9⟩
 clear E9;rcases I6 with rfl|⟨rfl,hp⟩|⟨rfl,hp,h9⟩
 .go_enter func47,ntmps47
  go_wp2_with(go_at_call 33;refine be EV λw1 f=>?_;have EQ:=qd (HQ w1 f);clear f)
  refine tw ?_;exact q9 EQ
 .have hd:decide (pri<0)=true:=di hp
  go_enter func47,ntmps47
  go_wp2_with(go_at_call 33;refine be EV λw1 f=>?_;have EQ:=qd (HQ w1 f);clear f)
  refine tw ?_;exact q9 EQ
 have hd:decide (pri<0)=false:=db hp;have GG:decide (9<pri)=true:=di h9;go_enter func47,ntmps47
 go_wp2_with(go_at_call 33;refine be EV λw1 f=>?_;have EQ:=qd (HQ w1 f);clear f)
 refine tw ?_;exact q9 EQ
end
theorem qpw(ps:List Pr)(ts:List Tm):∀{k:Nat},i<k->(xg ps ts k).getD i nV=ofT ps (xg ps ts i) (ts.getD i (.bare 0)):=by
 intro k
 induction k with
 | zero=>intro h;omega
 | succ k ih=>
  intro h;rw[xg,bi]
  by_cases hi:i<k
  rw[cg (by rw[j7];exact hi),<-bi];exact ih hi;obtain rfl:i=k:=ub;rw[da (by rw[j7];exact ui),j7,ld];rfl
theorem vmf(ps:List Pr)(I:qrt ts):∀{c:Co} {i k:Nat},Rep ts i c->qbi c->WfC c->kP c->i<k->(xg ps ts k).getD i nV=vC ps c:=by
 intro c
 induction c with
 | leaf p=>
  intro i k o q f _ s;rw[qpw ps ts s,bi,show ts[i]?=G (zK p 0 0) from o];have N:0<=p.op:=q.1.1;have f:js p.op=true:=f;simp only[js,ff,ew]at f;show ofT ps _ (zK p 0 0)=ofN ps (qaq p) [];rcases f with(((h|h)|h)|h)|h<;>simp[ofT,ofN,zK,qaq,h]
 | un p x ih=>
  intro i k o q f u s;obtain⟨l,E,A⟩:=o;have C:=(I i _ A).sides;rw[qpw ps ts s,bi,A];have H:unB p.op=true:=f.1;simp only[unB,ff,ew]at H;have D:l<i:=(C (by show 5<=p.op.toNat;omega)).1;have B:=ih E q.2 f.2 u D;show ofT ps _ (zK p l 0)=ofN ps (qaq p) [vC ps x];rcases H with(h|h)|h<;>simp[ofT,ofN,xM,jY,zK,qaq,h,<-B]
 | bin p x y ihx ihy=>
  intro i k o q f u s;obtain⟨l,r,E,A,J⟩:=o;have C:=(I i _ J).sides;have M:jp p.op:=u.1;unfold jp at M;obtain⟨D,o⟩:=C (by show 5<=p.op.toNat;omega);rw[qpw ps ts s,bi,J];have B:=ihx E q.2.1 f.2.1 u.2.1 D;have K:=ihy A q.2.2 f.2.2 u.2.2 o;show ofT ps _ (zK p l r)=ofN ps (qaq p) [vC ps x,vC ps y];have e:((p.op.toNat:Nat):Int)=p.op:=ub;have n:p.op≠0/\p.op≠1/\p.op≠2/\p.op≠3/\p.op≠4/\p.op≠20/\p.op≠21/\p.op≠22:=ub;have m:p.op.toNat≠0/\p.op.toNat≠1/\p.op.toNat≠2/\p.op.toNat≠3/\p.op.toNat≠4/\p.op.toNat≠22:=ub;simp[ofT,ofN,xM,zK,qaq,n,m,e,<-B,<-K]
theorem qws{l m:List Nat}(h:j<l.length):(l++m).getD j 0=l.getD j 0:=by
 rw[bi,bi,cg h]
theorem qwr(l:List Nat)(x:Nat)(h:l.length=j):(l++[x]).getD j 0=x:=by
 subst h;simp
theorem vfv(cs:List Co):∀k j,j<k->Rep (jE cs k).1 ((jE cs k).2.getD j 0) (cs.getD j (.leaf ⟨3,0,[],[]⟩)):=by
 intro k
 induction k with
 | zero=>intro j h;omega
 | succ k ih=>
  intro j h;obtain⟨f,us,e⟩:=gh (cs.getD k (.leaf ⟨3,0,[],[]⟩)) (jE cs k).1;show Rep (qC _ _).1 ((_++[_]:List Nat).getD j 0) _
  by_cases hj:j<k
  rw[qws (by rw[(zW cs k).1];exact hj),e];exact(ih j hj).more;obtain rfl:j=k:=ub;rw[qwr _ _ (zW cs j).1];exact f
def qpr(ps:List Pr)(cs:List Co):Nat->List Nat
 | 0=>[]
 | k+1=>qpr ps cs k++(if vC ps (cs.getD k (.leaf ⟨3,0,[],[]⟩))=bV true then[k] else[])
theorem qxq(ps:List Pr)(o:∀c∈cs,CoreOk c/\kP c):vnj ps (jE cs cs.length).1 (jE cs cs.length).2=qpr ps cs cs.length:=by
 have s:=qic (λc e=>(o c e).1) cs.length ui;have f:=zW cs cs.length;unfold vnj;rw[f.1]
 have key:∀k,k<=cs.length->qnn (xg ps (jE cs cs.length).1 (jE cs cs.length).1.length) (jE cs cs.length).2 k=qpr ps cs k:=by
  intro k
  induction k with
  | zero=>intro _;rfl
  | succ k ih=>
   intro y
   have e:cs.getD k (.leaf ⟨3,0,[],[]⟩)∈cs:=by
    rw[bi,ag ub];exact fm _
   obtain⟨q,u⟩:=o _ e
   have r:(jE cs cs.length).2.getD k 0<(jE cs cs.length).1.length:=f.2 _ (by
    rw[bi,ag ub]
    exact fm _)
   rw[qnn,qpr,ih ub,vmf ps s (vfv cs _ k ub) q.fld q.wf u r]
 exact key _ ui
structure HasB(w0:Ao)(F:Nat->Prop)(w:Ao)(bb:Nat)(last:Int)(L:List Su):Prop where
 br:Br w F bb last L
 good:kQ L
 new:∀k,F k->w0.1.size<=k
 below:Below w0.1.size w0 w
theorem vdp(w:Ao):HasB w (λk=>k=w.1.size) (w.alloc (Al #[I J 0,C O 0 0,C O 0 0,C O 0 0] 54)) w.1.size 0 []:=by
 refine⟨⟨λk o=>ud,C O 0 0,C O 0 0,C O 0 0,[],⟨heap_alloc_new w _,dy _ _ _ _,⟨TsAt.nil _ _,IsAt.nil _ _,λg s=>by simp[Value.ownBlock]at s⟩,λx f=>by simp at f,List.Pairwise.nil,λx f=>by simp at f,λx f=>by simp at f,List.Pairwise.nil,bt _,λx f=>by simp at f,⟨bt _,bt _,λi t h=>by simp[tsX,jE]at h,λr q=>by simp[rsX,jE]at q⟩⟩,rfl,λk o=>?_⟩,λx f=>by simp at f,λk o=>ub,gZ _ _⟩;rcases o with(e|e|e|e|⟨x,f,_⟩)|⟨x,f,_⟩;exact e;simp[Value.ownBlock]at e;simp[Value.ownBlock]at e;simp[Value.ownBlock]at e;simp at f;simp at f
section
variable {w0 w:Ao} {bb:Nat} {last:Int} {L:List Su}
end
end Go.Proofs.YtdmmmgodfceilaaGreatDoor
