/- the core of a node, wh -/
import Derived.Test.YtdmmmgodfceilaaGreatDoorM20
import Derived.Test.YtdmmmgodfceilaaGreatDoorM18
namespace Go.Proofs.YtdmmmgodfceilaaGreatDoor
open Go.RowKit Go.Proofs.Tryz
open Go renaming Value->Ap,World->Ao
open Go.Ending renaming returned->Ak
open Go.IntKind renaming i64->J
open Go.Value renaming agg->Ai,bool->Ah,int->I,slice->C,string->Y
open Option renaming none->O,some->G
open Or renaming inl->Am,inr->An
variable{c x y:Co}{o:Int}{cs:List Co}{fs:List RF}{f g:RF}{inv:Ap}
section
variable {N N':Nat->Prop} {w w' W:Ao}
def CsOf(N:Nat->Prop)(w:Ao)(cs:List Co)(fs:List RF):Prop:=fs.length=cs.length/\∀(i:Nat) (c:Co) (f:RF),cs[i]?=G c->fs[i]?=G f->RfAt N w c f
theorem CsOf.below(h:CsOf N w cs fs)(d:Xb w w'):CsOf N w' cs fs:=⟨h.1,λi c f a b=>(h.2 i c f a b).below d⟩
theorem CsOf.keep(h:CsOf N w cs fs)(d:∀b,N b->b<w.1.size->N' b):CsOf N' w cs fs:=⟨h.1,λi c f a b=>(h.2 i c f a b).keep (λ_ _ _=>rfl) ui d⟩
def CsIn(N:Nat->Prop)(w:Ao)(inv:Ap)(xs:List Co):Prop:=∃fs,CsOf N w xs fs/\(xs=[]\/∃b cap,inv=C (G ⟨b,0,O⟩) xs.length cap/\N b/\b<w.1.size/\∀k,k<xs.length * 6->w.cell? ⟨b,k,O⟩=(fs.flatMap qw)[k]?)
theorem CsIn.one(h:CsIn N w inv [x]):∃b cap g,inv=C (G ⟨b,0,O⟩) 1 cap/\N b/\b<w.1.size/\RfAt N w x g/\∀k,k<6->w.cell? ⟨b,k,O⟩=(qw g)[k]?:=by
 obtain⟨fs,⟨d,a⟩,h|⟨b,cap,rfl,j,l,i⟩⟩:=h;cases h
 match fs,d with
 | [g],_=>exact⟨b,cap,g,rfl,j,l,a 0 x g rfl rfl,λk e=>by have:=i k e;simpa using this⟩
theorem CsIn.two(h:CsIn N w inv [x,y]):∃b cap g k,inv=C (G ⟨b,0,O⟩) 2 cap/\b<w.1.size/\RfAt N w x g/\RfAt N w y k/\∀i,i<12->w.cell? ⟨b,i,O⟩=(qw g++qw k)[i]?:=by
 obtain⟨fs,⟨d,a⟩,h|⟨b,cap,rfl,m,l,j⟩⟩:=h;cases h
 match fs,d with
 | [g,k],_=>exact⟨b,cap,g,k,rfl,l,a 0 x g rfl rfl,a 1 y k rfl rfl,λi e=>by have:=j i e;simpa using this⟩
theorem CsIn.three{z:Co}(h:CsIn N w inv [x,y,z]):∃b cap g k j,inv=C (G ⟨b,0,O⟩) 3 cap/\b<w.1.size/\RfAt N w x g/\RfAt N w y k/\RfAt N w z j/\∀i,i<18->w.cell? ⟨b,i,O⟩=(qw g++qw k++qw j)[i]?:=by
 obtain⟨fs,⟨d,a⟩,h|⟨b,cap,rfl,n,m,l⟩⟩:=h;cases h
 match fs,d with
 | [g,k,j],_=>exact⟨b,cap,g,k,j,rfl,m,a 0 x g rfl rfl,a 1 y k rfl rfl,a 2 z j rfl rfl,λi e=>by have:=l i e;simpa using this⟩
theorem qc9{e:Ending}(j:w.1.size+1+1<=W.1.size)(h:xI (λb=>(N b\/w.1.size+1+1<=b)/\b<W.1.size) W c e w'):Xb W w'/\∃r:RF,e=Ak r.v/\RfAt (λb=>N b\/w.1.size+1+1<=b) w' c r:=by
 obtain⟨d,r,i,a⟩:=h;exact⟨d,r,i,a.keep (λ_ _ _=>rfl) ui (λb h _=>by rcases h with h|h;exact h.1;right;omega)⟩
theorem qds(h:RfAt N w c f)(d:Xb w W):RfAt (λb=>(N b\/w.1.size+1+1<=b)/\b<W.1.size) W c f:=(h.below d).keep (λ_ _ _=>rfl) ui (λ_ h a=>⟨Am h,a⟩)
theorem vq3(h:RfAt (λb=>N b\/w.1.size+1+1<=b) W c f):RfAt (λb=>(N b\/w.1.size+1+1<=b)/\b<W.1.size) W c f:=h.keep (λ_ _ _=>rfl) ui (λ_ h a=>⟨h,a⟩)
theorem qb4:qt (kL 0)=[48]:=by
 show Lib.itoa ((0:Nat):Int)=[48];rw[Lib.itoa_nonneg,Lib.decDigits_one ue];rfl
theorem vne(N:Nat->Prop)(w:Ao):xJ w λz w'=>RfAt (λb=>N b\/w.1.size+1+1<=b) w' (kL 0) z:=by
 intro W _ a;have h:=gj N ⟨1,0,[],[]⟩ W;rw[show qt (.leaf ⟨1,0,[],[]⟩)=[48] from qb4]at h;exact h.mono λe w' d=>pE a d.rf
theorem qd7(p:CP){W:Ao}(a:w.1.size+1<W.1.size):ua 145 #[Y (BS (qH p.op)),Y (BS (qt (.leaf p))),I J (qmk p.op),I J (qf4 p:Nat)] W λe w'=>Xb W w'/\∃r:RF,e=Ak r.v/\RfAt (λb=>N b\/w.1.size+1+1<=b) w' (.leaf p) r:=
 (gj N p W).mono λ_ _ d=>pE a d.rf
theorem qkp(k:vF o)(d:w.1.size+1<W.1.size)(j:RfAt (λb=>(N b\/w.1.size+1+1<=b)/\b<W.1.size) W x f)(i:RfAt (λb=>(N b\/w.1.size+1+1<=b)/\b<W.1.size) W y g)(l:kS x)(a:kS y):
  ua 148 #[Y (BS (qH o)),f.v,g.v] W λe w'=>Xb W w'/\∃r:RF,e=Ak r.v/\RfAt (λb=>N b\/w.1.size+1+1<=b) w' (qp o x y) r:=
 (gU k j i l a (λ_ h=>h.2)).mono λ_ _ h=>qc9 d h
theorem vnx(hd:qm1 x)(a:w.1.size+1<W.1.size)(d:RfAt (λb=>(N b\/w.1.size+1+1<=b)/\b<W.1.size) W x f):
  ua 102 #[f.v] W λe w'=>Xb W w'/\∃r:RF,e=Ak r.v/\RfAt (λb=>N b\/w.1.size+1+1<=b) w' (vg x) r:=
 (hd _ W f d (λ_ h=>h.2)).mono λ_ _ h=>qc9 a h
theorem qnl{p:CP}{b cap:Nat}(i:w.1.size+1<W.1.size)(a:Xb w W)(j:RfAt N w x g)(n:N b)(d:b<w.1.size)(m:∀k,k<6->w.cell? ⟨b,k,O⟩=(qw g)[k]?)(q:kS x):
  ua 150 #[Y (BS (qH p.op)),Y (BS (qt (.un p x))),I J (qmk p.op),C (G ⟨b,0,O⟩) 1 cap,I J (qf4 p:Nat)] W λe w'=>Xb W w'/\∃r:RF,e=Ak r.v/\RfAt (λb=>N b\/w.1.size+1+1<=b) w' (.un p x) r:=
 (qk0 p (vhs (qds j a) (aq d a.size) (λk l=>((qk a).1 _ _ d).trans (m k l))) ⟨Am n,aq d a.size⟩ q).mono λ_ _ h=>qc9 i h
theorem vir(n:(qt x).length<=402)(b:WfC x){S:List tu}(q:S.length<=1000)(d:∀t∈S,t.length<=200)(i:Nat):kS (amK x S i):=by
 have m:(S.getD 0 []).length<=200:=by
  rw[bi]
  cases h:S[0]? with
  | none=>simp
  | some t=>exact d t (bg h)
 have l:WfC (qp 8 x (vi (S.getD 0 []))):=vO rfl b rfl;have a:WfC (amK x S i):=qqu b _ _ l;have k:=qdi x ((S.drop 1).take (i - 1)) (qp 8 x (vi (S.getD 0 []))) (λt e=>d t (ln (nw e)));rw[qN 8 rfl rfl]at k;have v:=xy _ m;have z:(jw 8).length=1:=rfl;have j:((S.drop 1).take (i - 1)).length<=1000:=by rw[cw,dj];omega
 have u:((S.drop 1).take (i - 1)).length * ((qt x).length+420)<=1000 * 822:=ri j ub
 have s:(qt (amK x S i)).length<=400000+1000 * 822:=by
  show(qt (za _ _ _)).length<=_;omega
 have r:=ka _ a;exact⟨ub,ub⟩
theorem qqx(d:vF o)(b:Gc x)(a:Gc y):kS (qp o x y):=by
 obtain⟨j,i,e⟩:=vn6 d;have q:=qN o i e x y;have n:=va9 o;have m:=b.len;have l:=a.len;have k:=ka _ (vO j b.wt.wf a.wt.wf);exact⟨ub,ub⟩
theorem vgt{t:tu}(h:t.length<=200):kS (vi t):=by
 have:=xy t h;exact⟨ub,by show(1:Nat)<=_;omega⟩
theorem vr3{ts:List tu}{la:Option Addr}{lc:Nat}(s:w.1.size+1<W.1.size)(m:Xb w W)(u:RfAt N w x g)(l:Gc x)(d:(qt x).length<=402)(q:TxtAt w (C la ts.length lc) ts)(k:ts≠[])(n:ts.length<=1000)(j:∀t∈ts,t.length<=200):
  ua 149 #[g.v,C la ts.length lc] W λe w'=>Xb W w'/\∃r:RF,e=Ak r.v/\RfAt (λb=>N b\/w.1.size+1+1<=b) w' (vI x ts) r:=by
 refine(qtr (qds u m) (λ_ h=>h.2) (q.below m) k n (λt a=>uu (j t a)) l.big (λt a=>vgt (j t a)) (λt a=>?_) (λi _ _=>vir d l.wt.wf (bs (qag ts) n) (λt a=>j t (gD a)) i)).mono λ_ _ h=>qc9 s h
 have A:=xy t (j t a);have z:=qN 8 rfl rfl x (vi t);have B:(jw 8).length=1:=rfl;have v:=ka (qp 8 x (vi t)) (vO rfl l.wt.wf rfl);exact⟨ub,ub⟩
theorem vew(b:Gc x)(a:Gc y):qm1 (qp 8 x y):=by
 have d:WT (qp 8 x y):=zj (by unfold vF;omega) b.wt a.wt ub;have l:=qN 8 rfl rfl x y;have m:(jw 8).length=1:=rfl;have k:uC (qp 8 x y)=1:=by rw[jN];rfl
 have j:=ka _ d.wf;have i:=b.len;have e:=a.len;exact pD _ d (xf ub _ _) ⟨ub,ub⟩
end
section
variable {N:Nat->Prop} {w:Ao} {p:Pay} {neg:Bool} {c:Int} {iv inv:Ap} {la:Option Addr} {lc:Nat} {xs:List Co}
theorem len0{α:Type}{l:List α}(h:l.length=0):l=[]:=de h
theorem vni{α:Type}{l:List α}(h:l.length=1):∃a,l=[a]:=by
 match l,h with
 | [a],_=>exact⟨a,rfl⟩
theorem vqs{α:Type}{l:List α}(h:l.length=2):∃a b,l=[a,b]:=by
 match l,h with
 | [a,b],_=>exact⟨a,b,rfl⟩
theorem vsb{α:Type}{l:List α}(h:l.length=3):∃a b c,l=[a,b,c]:=by
 match l,h with
 | [a,b,c],_=>exact⟨a,b,c,rfl⟩
theorem vb6(h:vF o):∀l∈[[110,97,109,101],[110,117,109,98,101,114],[116,101,120,116],[84,82,85,69],[70,65,76,83,69],[78,79,84],[112],[110],[60,62],[62],[62,61],[66,69,84,87,69,69,78],[73,78],[78,85,76,76],[76,73,75,69]],((BS (qH o)).toList==l)=false:=by
 rw[qP];rcases h with rfl|rfl|rfl|rfl|rfl|rfl|rfl|rfl|rfl<;>decide
set_option maxHeartbeats 16000000 in
theorem qyw(D:CsIn N w inv xs)(M:∀b,N b->b<w.1.size)(lG:TxtAt w (C la p.P.length lc) p.P)(S:0<=p.op)(U:p.op<=23)(i:NdC p neg xs)(cX:Rng p.K)(Q:Bp p)(R:Bz p):
  ua 101 #[Ai #[Y (BS (qH p.op)),I J p.M,iv,Y (BS p.V),Y (BS p.h),C la p.P.length lc,I J p.K,Ah neg,I J c],inv] w (xI N w (kY p xs)):=by
 obtain⟨op,Z,num,str,esc,texts⟩:=p;have v:xs.length=pt op:=i.few;have B:∀{s W:Ao},Xb w s->Xb s W->Xb w W:=λa b=>qg a b
 have A:∀{s W:Ao},w.1.size+1<s.1.size->Xb s W->w.1.size+1<W.1.size:=λa b=>aq a b.size
 have fin:∀{k:Co},jh w (λr H=>RfAt (λb=>N b\/w.1.size+1+1<=b) H k r) (xI N w k):=λr H w' O K h3=>xP M O K h3
 have t:=vne N w
 by_cases K:vF op
 .obtain⟨x,y,rfl⟩:=vqs (v.trans (qm7 (by unfold vF at K;omega)))
  obtain⟨b,cap,g,k,rfl,n,l,E,m⟩:=D.two;rw[show kY ⟨op,Z,num,str,esc,texts⟩ [x,y]=qp op x y by unfold vF at K;unfold kY;simp only;rw[ak ud,ak ud,ak ud]];exact qyy rfl ui n m (vb6 K) t (λs z W a b d f=>qkp K (A b f) (qds l (B a f)) (qds E (B a f)) (i.gc x uc).big (i.gc y uc).big) fin
 have S:0<=op:=S;have U:op<=23:=U;rcases(show op=0\/op=1\/op=2\/op=3\/op=4\/op=5\/op=9\/op=12\/op=13\/op=14\/op=15\/op=20\/op=21\/op=22\/op=23 by unfold vF at K;omega) with e|e|e|e|e|e|e|e|e|e|e|e|e|e|e<;>subst e
 obtain rfl:=len0 v;exact qtj t (λs z W a b d f=>qd7 ⟨0,num,str,esc⟩ (A b f)) fin
 .obtain rfl:=len0 v
  obtain⟨O,rfl,rfl⟩:=R.K rfl;obtain⟨u,rfl⟩:∃u:Nat,num=(u:Int):=⟨num.toNat,by simp only at O;omega⟩;have hu:u<=9223372036854775807:=by have:=cX.2;simp only at this;omega
  refine qjr (QB:=BS (Lib.decDigits u)) (qk3 u hu) t (P:=λr H=>RfAt (λb=>N b\/w.1.size+1+1<=b) H (.leaf ⟨1,(u:Int),[],[]⟩) r) (λs z W a b d f=>?_) fin;have:=qd7 (N:=N) ⟨1,(u:Int),[],[]⟩ (A b f);rwa [show qt (.leaf ⟨1,(u:Int),[],[]⟩)=Lib.decDigits u from Lib.itoa_nonneg u]at this
 obtain rfl:=len0 v;exact qtl (QB:=BS (qL str)) (ya (BS str) (by have h:str.length<=200:=Q.1;rw[qJ];omega)) t (λs z W a b d f=>qd7 ⟨2,num,str,esc⟩ (A b f)) fin;obtain rfl:=len0 v;exact qdp (Am rfl) t (λs z W a b d f=>qd7 ⟨3,num,str,esc⟩ (A b f)) fin;obtain rfl:=len0 v;exact qdp (An rfl) t (λs z W a b d f=>qd7 ⟨4,num,str,esc⟩ (A b f)) fin;obtain⟨x,rfl⟩:=vni v;obtain⟨b,cap,g,rfl,G,n,l,m⟩:=D.one;have F:=i.gc x uc;exact qyx rfl ui n m t (λs z W a b d f=>vnx (pD x F.wt (i.tb rfl x uc) F.sz) (A b f) (qds l (B a f))) fin;obtain⟨x,y,rfl⟩:=vqs v;obtain⟨b,cap,g,k,rfl,n,l,E,m⟩:=D.two;exact vfk rfl ui n m t l E M (i.gc x uc).big (i.gc y uc).big (vew (i.gc x uc) (i.gc y uc));obtain⟨x,y,rfl⟩:=vqs v;obtain⟨b,cap,g,k,rfl,n,l,E,m⟩:=D.two;exact qf5 rfl ui n m (Am ⟨rfl,rfl⟩) t (λs z W a b d f=>qkp (o:=10) (by simp[vF]) (A b f) (qds E (B a f)) (qds l (B a f)) (i.gc y uc).big (i.gc x uc).big) fin;obtain⟨x,y,rfl⟩:=vqs v;obtain⟨b,cap,g,k,rfl,n,l,E,m⟩:=D.two;exact qf5 rfl ui n m (An ⟨rfl,rfl⟩) t (λs z W a b d f=>qkp (o:=11) (by simp[vF]) (A b f) (qds E (B a f)) (qds l (B a f)) (i.gc y uc).big (i.gc x uc).big) fin;obtain⟨x,rfl⟩:=vni v;obtain⟨b,cap,g,rfl,G,n,l,m⟩:=D.one;exact qf6 rfl ui n m (Am ⟨rfl,rfl⟩) t (λs z W a b d f=>qkp (o:=16) (by simp[vF]) (A b f) (vq3 (d.below f)) (qds l (B a f)) ⟨by rw[qb4];decide,ue⟩ (i.gc x uc).big) fin;obtain⟨x,rfl⟩:=vni v;obtain⟨b,cap,g,rfl,G,n,l,m⟩:=D.one;exact qf6 rfl ui n m (An ⟨rfl,rfl⟩) t (λs z W a b d f=>qkp (o:=17) (by simp[vF]) (A b f) (vq3 (d.below f)) (qds l (B a f)) ⟨by rw[qb4];decide,ue⟩ (i.gc x uc).big) fin;obtain⟨x,y,z,rfl⟩:=vsb v;obtain⟨b,cap,g,k,j,rfl,n,l,E,hz,m⟩:=D.three;exact qhe rfl ui n m t l E hz M (i.gc x uc).big (i.gc y uc).big (i.gc z uc).big (qqx (by simp[vF]) (i.gc y uc) (i.gc x uc)) (qqx (by simp[vF]) (i.gc x uc) (i.gc z uc));obtain⟨x,rfl⟩:=vni v;obtain⟨b,cap,g,rfl,G,n,l,m⟩:=D.one;exact vfj rfl ui n m t (λs z W a b d f=>vr3 (A b f) (B a f) l (i.gc x uc) (i.nm rfl x uc) lG (i.tx rfl).1 Q.2 (i.tx rfl).2) fin
 .obtain⟨x,rfl⟩:=vni v
  obtain⟨b,cap,g,rfl,G,n,l,m⟩:=D.one;have F:=i.gc x uc;have dH:str.length<=200:=Q.1;have TA:=qa4 str;have fO:=qa4 esc
  have UY:esc.length<=1:=by
   rcases(R.like rfl).2 with h|h;have h:esc=[]:=h;rw[h];decide;have h:esc.length=1:=h.1;omega
  have X:g.Q.length<=400000000:=by rw[l.Q];exact F.big.1
  by_cases he:esc=[]
  .subst he
   refine qp3 (q:=qL str) rfl ui n m rfl X ub (ya (BS str) (by rw[qJ];omega)) t (P:=λr H=>RfAt (λb=>N b\/w.1.size+1+1<=b) H (.un ⟨22,num,str,[]⟩ x) r) (λs z W a L d f=>?_) fin;have:=qnl (N:=N) (p:=⟨22,num,str,[]⟩) (cap:=cap) (A L f) (B a f) l G n m F.big;rwa [show qt (.un ⟨22,num,str,[]⟩ x)=[40]++g.Q++[32,76,73,75,69,32]++qL str++[41] by rw[l.Q];show[40]++qt x++[32,76,73,75,69,32]++qL str++[]++[41]=_;simp]at this
  have hE:qi4 esc=[32,69,83,67,65,80,69,32]++qL esc:=by
   unfold qi4
   cases esc with
   | nil=>exact absurd rfl he
   | cons a b=>rfl
  refine qp4 (q:=qL str) (q':=qL esc) rfl ui n m (by rw[qP];cases esc with|nil=>exact absurd rfl he|cons a b=>rfl) X ub ub (ya (BS str) (by rw[qJ];omega)) (ya (BS esc) (by rw[qJ];omega)) t (P:=λr H=>RfAt (λb=>N b\/w.1.size+1+1<=b) H (.un ⟨22,num,str,esc⟩ x) r) (λs z W a L d f=>?_) fin;have:=qnl (N:=N) (p:=⟨22,num,str,esc⟩) (cap:=cap) (A L f) (B a f) l G n m F.big;rwa [show qt (.un ⟨22,num,str,esc⟩ x)=[40]++g.Q++[32,76,73,75,69,32]++qL str++[32,69,83,67,65,80,69,32]++qL esc++[41] by rw[l.Q];show[40]++qt x++[32,76,73,75,69,32]++qL str++qi4 esc++[41]=_;rw[hE];simp]at this
 obtain⟨x,rfl⟩:=vni v;obtain⟨b,cap,g,rfl,G,n,l,m⟩:=D.one;have F:=i.gc x uc;exact qtk (T:=qt (.un ⟨23,num,str,esc⟩ x)) rfl ui n m (by rw[l.Q];exact F.big.1) (by rw[l.Q];rfl) t (λs z W a L d f=>qnl (N:=N) (p:=⟨23,num,str,esc⟩) (cap:=cap) (A L f) (B a f) l G n m F.big) fin
end
end Go.Proofs.YtdmmmgodfceilaaGreatDoor
