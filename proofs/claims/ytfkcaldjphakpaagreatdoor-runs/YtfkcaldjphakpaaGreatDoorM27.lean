/- The document's answer -/
import Derived.Test.YtfkcaldjphakpaaGreatDoorM22
import Derived.Test.YtfkcaldjphakpaaGreatDoorM25
import Derived.Test.YtfkcaldjphakpaaGreatDoorM05
import Derived.Test.YtfkcaldjphakpaaGreatDoorM18
set_option maxHeartbeats 16000000
set_option maxRecDepth 100000
namespace Go.Proofs.YtfkcaldjphakpaaGreatDoor
open Go.RowKit Go.Proofs.Tryz
variable{t:Ast}{s:mu}{p:CP}{c x y:Co}{o:Int}{ss:List mv}{E cs:List Co}{fs:List RF}{ns:List RN}{LN b base cap g i k m n rb:Nat}{a:Option Addr}{f:RF}{inv v:Value}{W w:World}
section
section
variable {N N':Nat->Prop} {w w' W:World}
def CsOf(N:Nat->Prop)(w:World)(cs:List Co)(fs:List RF):Prop:=fs.length=cs.length/\∀(i:Nat) (c:Co) (f:RF),cs[i]?=some c->fs[i]?=some f->RfAt N w c f
theorem CsOf.below(h:CsOf N w cs fs)(e:Xb w w'):CsOf N w' cs fs:=⟨h.1,λi c f a b=>(h.2 i c f a b).below e⟩
theorem CsOf.keep(h:CsOf N w cs fs)(e:∀b,N b->b<w.heap.size->N' b):CsOf N' w cs fs:=⟨h.1,λi c f a b=>(h.2 i c f a b).keep (λ_ _ _=>rfl) nt e⟩
def CsIn(N:Nat->Prop)(w:World)(inv:Value)(xs:List Co):Prop:=∃fs,CsOf N w xs fs/\(xs=[]\/∃b cap,inv=.slice (some ⟨b,0,none⟩) xs.length cap/\N b/\b<w.heap.size/\∀k,k<xs.length * 6->w.cell? ⟨b,k,none⟩=(fs.flatMap qt)[k]?)
theorem CsIn.one(h:CsIn N w inv [x]):∃b cap g,inv=.slice (some ⟨b,0,none⟩) 1 cap/\N b/\b<w.heap.size/\RfAt N w x g/\∀k,k<6->w.cell? ⟨b,k,none⟩=(qt g)[k]?:=by
 obtain⟨fs,⟨j,e⟩,h|⟨b,cap,rfl,r,u,q⟩⟩:=h
 ·cases h
 ·match fs,j with
  | [g],_=>exact⟨b,cap,g,rfl,r,u,e 0 x g rfl rfl,λk l=>by have:=q k l;simpa using this⟩
theorem CsIn.two(h:CsIn N w inv [x,y]):∃b cap g k,inv=.slice (some ⟨b,0,none⟩) 2 cap/\b<w.heap.size/\RfAt N w x g/\RfAt N w y k/\∀i,i<12->w.cell? ⟨b,i,none⟩=(qt g++qt k)[i]?:=by
 obtain⟨fs,⟨j,e⟩,h|⟨b,cap,rfl,u,r,q⟩⟩:=h
 ·cases h
 ·match fs,j with
  | [g,k],_=>exact⟨b,cap,g,k,rfl,r,e 0 x g rfl rfl,e 1 y k rfl rfl,λi l=>by have:=q i l;simpa using this⟩
theorem CsIn.three{z:Co}(h:CsIn N w inv [x,y,z]):∃b cap g k j,inv=.slice (some ⟨b,0,none⟩) 3 cap/\b<w.heap.size/\RfAt N w x g/\RfAt N w y k/\RfAt N w z j/\∀i,i<18->w.cell? ⟨b,i,none⟩=(qt g++qt k++qt j)[i]?:=by
 obtain⟨fs,⟨l,e⟩,h|⟨b,cap,rfl,A,u,r⟩⟩:=h
 ·cases h
 ·match fs,l with
  | [g,k,j],_=>exact⟨b,cap,g,k,j,rfl,u,e 0 x g rfl rfl,e 1 y k rfl rfl,e 2 z j rfl rfl,λi q=>by have:=r i q;simpa using this⟩
theorem qaw{e:Ending}(u:w.heap.size+1+1<=W.heap.size)(h:xo (λb=>(N b\/w.heap.size+1+1<=b)/\b<W.heap.size) W c e w'):Xb W w'/\∃r:RF,e=.returned r.v/\RfAt (λb=>N b\/w.heap.size+1+1<=b) w' c r:=by
 obtain⟨l,r,q,j⟩:=h;exact⟨l,r,q,j.keep (λ_ _ _=>rfl) nt (λb h _=>by rcases h with h|h;exact h.1;right;omega)⟩
theorem qcc(h:RfAt N w c f)(j:Xb w W):RfAt (λb=>(N b\/w.heap.size+1+1<=b)/\b<W.heap.size) W c f:=(h.below j).keep (λ_ _ _=>rfl) nt (λ_ h e=>⟨.inl h,e⟩)
theorem vk3(h:RfAt (λb=>N b\/w.heap.size+1+1<=b) W c f):RfAt (λb=>(N b\/w.heap.size+1+1<=b)/\b<W.heap.size) W c f:=h.keep (λ_ _ _=>rfl) nt (λ_ h e=>⟨h,e⟩)
theorem pX:qp (kd 0)=[48]:=by
 show Lib.itoa ((0:Nat):Int)=[48];rw[Lib.itoa_nonneg,Lib.decDigits_one nh];rfl
theorem vin(N:Nat->Prop)(w:World):vI w λz w'=>RfAt (λb=>N b\/w.heap.size+1+1<=b) w' (kd 0) z:=by
 intro W _ j;have h:=kv N ⟨1,0,[],[]⟩ W;rw[show qp (.leaf ⟨1,0,[],[]⟩)=[48] from pX]at h;exact h.mono λe w' l=>gw j l.rf
theorem qbr(p:CP)(h:w.heap.size+1<W.heap.size):nz 224 #[.string (BS (qD p.op)),.string (BS (qp (.leaf p))),.int .i64 (qja p.op),.int .i64 (qa0 p:Nat)] W λe w'=>Xb W w'/\∃r:RF,e=.returned r.v/\RfAt (λb=>N b\/w.heap.size+1+1<=b) w' (.leaf p) r:=
 (kv N p W).mono λ_ _ j=>gw h j.rf
theorem qij{g:RF}(z:vq o)(l:w.heap.size+1<W.heap.size)(u:RfAt (λb=>(N b\/w.heap.size+1+1<=b)/\b<W.heap.size) W x f)(q:RfAt (λb=>(N b\/w.heap.size+1+1<=b)/\b<W.heap.size) W y g)(A:kg x)(j:kg y):
  nz 227 #[.string (BS (qD o)),f.v,g.v] W λe w'=>Xb W w'/\∃r:RF,e=.returned r.v/\RfAt (λb=>N b\/w.heap.size+1+1<=b) w' (qk o x y) r:=
 (kS z u q A j (λ_ h=>h.2)).mono λ_ _ h=>qaw l h
theorem viz(hd:qiu x)(j:w.heap.size+1<W.heap.size)(l:RfAt (λb=>(N b\/w.heap.size+1+1<=b)/\b<W.heap.size) W x f):
  nz 179 #[f.v] W λe w'=>Xb W w'/\∃r:RF,e=.returned r.v/\RfAt (λb=>N b\/w.heap.size+1+1<=b) w' (qW x) r:=
 (hd _ W f l (λ_ h=>h.2)).mono λ_ _ h=>qaw j h
theorem qka{g:RF}(q:w.heap.size+1<W.heap.size)(j:Xb w W)(u:RfAt N w x g)(B:N b)(l:b<w.heap.size)(A:∀k,k<6->w.cell? ⟨b,k,none⟩=(qt g)[k]?)(C:kg x):
  nz 229 #[.string (BS (qD p.op)),.string (BS (qp (.un p x))),.int .i64 (qja p.op),.slice (some ⟨b,0,none⟩) 1 cap,.int .i64 (qa0 p:Nat)] W λe w'=>Xb W w'/\∃r:RF,e=.returned r.v/\RfAt (λb=>N b\/w.heap.size+1+1<=b) w' (.un p x) r:=
 (qhx p (vec (qcc u j) (bg l j.size) (λk z=>((qj j).1 _ _ l).trans (A k z))) ⟨.inl B,bg l j.size⟩ C).mono λ_ _ h=>qaw q h
theorem vf8(B:(qp x).length<=402)(j:WfC x){S:List mv}(C:S.length<=1000)(l:∀t∈S,t.length<=200)(i:Nat):kg (amK x S i):=by
 have q:(S.getD 0 []).length<=200:=by
  rw[aq]
  cases h:S[0]? with
  | none=>simp
  | some t=>exact l t (ch h)
 have A:WfC (qk 8 x (qY (S.getD 0 []))):=vF rfl j rfl;have e:WfC (amK x S i):=qnh j _ _ A;have z:=qby x ((S.drop 1).take (i - 1)) (qk 8 x (qY (S.getD 0 []))) (λt r=>l t (List.mem_of_mem_drop (List.mem_of_mem_take r)));rw[qH 8 rfl rfl]at z;have H:=xd _ q;have I:(jo 8).length=1:=rfl;have u:((S.drop 1).take (i - 1)).length<=1000:=by rw[dh,dc];omega
 have G:((S.drop 1).take (i - 1)).length * ((qp x).length+420)<=1000 * 822:=ln u mw
 have F:(qp (amK x S i)).length<=400000+1000 * 822:=by
  show(qp (jM _ _ _)).length<=_;omega
 have D:=yx _ e;exact⟨mw,mw⟩
theorem qnk(l:vq o)(j:Gc x)(e:Gc y):kg (qk o x y):=by
 obtain⟨u,r,q⟩:=vie l;have D:=qH o r q x y;have C:=qx9 o;have B:=j.len;have A:=e.len;have z:=yx _ (vF u j.wt.wf e.wt.wf);exact⟨mw,mw⟩
theorem vdb{t:mv}(h:t.length<=200):kg (qY t):=by
 have:=xd t h;exact⟨mw,by show(1:Nat)<=_;omega⟩
theorem vky{ts:List mv}{g:RF}{la:Option Addr}{lc:Nat}(C:w.heap.size+1<W.heap.size)(A:Xb w W)(D:RfAt N w x g)(z:Gc x)(l:(qp x).length<=402)(F:TxtAt w (.slice la ts.length lc) ts)(u:ts≠[])(B:ts.length<=1000)(q:∀t∈ts,t.length<=200):
  nz 228 #[g.v,.slice la ts.length lc] W λe w'=>Xb W w'/\∃r:RF,e=.returned r.v/\RfAt (λb=>N b\/w.heap.size+1+1<=b) w' (vt x ts) r:=by
 refine(qr6 (qcc D A) (λ_ h=>h.2) (F.below A) u B (λt j=>by have:=q t j;omega) z.big (λt j=>vdb (q t j)) (λt j=>?_) (λi _ _=>vf8 l z.wt.wf (bs (pw ts) B) (λt j=>q t (kF j)) i)).mono λ_ _ h=>qaw C h
 have I:=xd t (q t j);have H:=qH 8 rfl rfl x (qY t);have J:(jo 8).length=1:=rfl;have G:=yx (qk 8 x (qY t)) (vF rfl z.wt.wf rfl);exact⟨mw,mw⟩
theorem vbn(j:Gc x)(e:Gc y):qiu (qk 8 x y):=by
 have l:WT (qk 8 x y):=jR (by unfold vq;omega) j.wt e.wt mw;have A:=qH 8 rfl rfl x y;have B:(jo 8).length=1:=rfl;have z:uC (qk 8 x y)=1:=by rw[jC];rfl
 have u:=yx _ l.wf;have r:=j.len;have q:=e.len;exact gu _ l (zE mw _ _) ⟨mw,mw⟩
end
section
variable {N:Nat->Prop} {w:World} {p:Pay} {neg:Bool} {c:Int} {iv inv:Value} {la:Option Addr} {lc:Nat} {xs:List Co}
theorem len0{α:Type}{l:List α}(h:l.length=0):l=[]:=cq h
theorem vio{α:Type}{l:List α}(h:l.length=1):∃a,l=[a]:=by
 match l,h with
 | [a],_=>exact⟨a,rfl⟩
theorem vkn{α:Type}{l:List α}(h:l.length=2):∃a b,l=[a,b]:=by
 match l,h with
 | [a,b],_=>exact⟨a,b,rfl⟩
theorem vmw{α:Type}{l:List α}(h:l.length=3):∃a b c,l=[a,b,c]:=by
 match l,h with
 | [a,b,c],_=>exact⟨a,b,c,rfl⟩
theorem qy3(h:vq o):∀l∈[[110,97,109,101],[110,117,109,98,101,114],[116,101,120,116],[84,82,85,69],[70,65,76,83,69],[78,79,84],[112],[110],[60,62],[62],[62,61],[66,69,84,87,69,69,78],[73,78],[78,85,76,76],[76,73,75,69]],((BS (qD o)).toList==l)=false:=by
 rw[qM];rcases h with rfl|rfl|rfl|rfl|rfl|rfl|rfl|rfl|rfl<;>decide
theorem qvz(J:CsIn N w inv xs)(S:∀b,N b->b<w.heap.size)(cE:TxtAt w (.slice la p.texts.length lc) p.texts)(Y:0<=p.op)(Z:p.op<=23)(l:NdC p neg xs)(eM:Rng p.num)(X:Bp p)(F8:Bz p):
  nz 178 #[.agg #[.string (BS (qD p.op)),.int .i64 p.place,iv,.string (BS p.str),.string (BS p.esc),.slice la p.texts.length lc,.int .i64 p.num,.bool neg,.int .i64 c],inv] w (xo N w (kn p xs)):=by
 obtain⟨op,pl,num,str,esc,texts⟩:=p;have G:xs.length=gk op:=l.few;have I:∀{D W:World},Xb w D->Xb D W->Xb w W:=λa b=>qf a b
 have H:∀{D W:World},w.heap.size+1<D.heap.size->Xb D W->w.heap.size+1<W.heap.size:=λa b=>bg a b.size
 have fin:∀{k:Co},ja w (λr M=>RfAt (λb=>N b\/w.heap.size+1+1<=b) M k r) (xo N w k):=λr M w' U Q h3=>xw S U Q h3
 have F:=vin N w
 by_cases Q:vq op
 ·obtain⟨x,y,rfl⟩:=vkn (G.trans (qiz (by unfold vq at Q;omega)))
  obtain⟨b,cap,g,k,rfl,C,A,K,B⟩:=J.two;rw[show kn ⟨op,pl,num,str,esc,texts⟩ [x,y]=qk op x y by unfold vq at Q;unfold kn;simp only;rw[aj my,aj my,aj my]];exact qw1 rfl nt C B (qy3 Q) F (λD z W a b d f=>qij Q (H b f) (qcc A (I a f)) (qcc K (I a f)) (l.gc x mx).big (l.gc y mx).big) fin
 have Y:0<=op:=Y;have Z:op<=23:=Z;rcases(show op=0\/op=1\/op=2\/op=3\/op=4\/op=5\/op=9\/op=12\/op=13\/op=14\/op=15\/op=20\/op=21\/op=22\/op=23 by unfold vq at Q;omega) with e|e|e|e|e|e|e|e|e|e|e|e|e|e|e<;>subst e
 ·obtain rfl:=len0 G
  exact qqy F (λD z W a b d f=>qbr ⟨0,num,str,esc⟩ (H b f)) fin
 ·obtain rfl:=len0 G
  obtain⟨U,rfl,rfl⟩:=F8.num rfl;obtain⟨u,rfl⟩:∃u:Nat,num=(u:Int):=⟨num.toNat,by simp only at U;omega⟩;have hu:u<=9223372036854775807:=by have:=eM.2;simp only at this;omega
  refine qho (QB:=BS (Lib.decDigits u)) (qi0 u hu) F (P:=λr M=>RfAt (λb=>N b\/w.heap.size+1+1<=b) M (.leaf ⟨1,(u:Int),[],[]⟩) r) (λD z W a b d f=>?_) fin;have:=qbr (N:=N) ⟨1,(u:Int),[],[]⟩ (H b f);rwa [show qp (.leaf ⟨1,(u:Int),[],[]⟩)=Lib.decDigits u from Lib.itoa_nonneg u]at this
 ·obtain rfl:=len0 G
  exact qr0 (QB:=BS (qL str)) (xF (BS str) (by have h:str.length<=200:=X.1;rw[qG];omega)) F (λD z W a b d f=>qbr ⟨2,num,str,esc⟩ (H b f)) fin
 ·obtain rfl:=len0 G
  exact qc9 (.inl rfl) F (λD z W a b d f=>qbr ⟨3,num,str,esc⟩ (H b f)) fin
 ·obtain rfl:=len0 G
  exact qc9 (.inr rfl) F (λD z W a b d f=>qbr ⟨4,num,str,esc⟩ (H b f)) fin
 ·obtain⟨x,rfl⟩:=vio G
  obtain⟨b,cap,g,rfl,O,C,A,B⟩:=J.one;have L:=l.gc x mx;exact qw0 rfl nt C B F (λD z W a b d f=>viz (gu x L.wt (l.tb rfl x mx) L.sz) (H b f) (qcc A (I a f))) fin
 ·obtain⟨x,y,rfl⟩:=vkn G
  obtain⟨b,cap,g,k,rfl,C,A,K,B⟩:=J.two;exact vc3 rfl nt C B F A K S (l.gc x mx).big (l.gc y mx).big (vbn (l.gc x mx) (l.gc y mx))
 ·obtain⟨x,y,rfl⟩:=vkn G
  obtain⟨b,cap,g,k,rfl,C,A,K,B⟩:=J.two;exact qdg rfl nt C B (.inl ⟨rfl,rfl⟩) F (λD z W a b d f=>qij (o:=10) (by simp[vq]) (H b f) (qcc K (I a f)) (qcc A (I a f)) (l.gc y mx).big (l.gc x mx).big) fin
 ·obtain⟨x,y,rfl⟩:=vkn G
  obtain⟨b,cap,g,k,rfl,C,A,K,B⟩:=J.two;exact qdg rfl nt C B (.inr ⟨rfl,rfl⟩) F (λD z W a b d f=>qij (o:=11) (by simp[vq]) (H b f) (qcc K (I a f)) (qcc A (I a f)) (l.gc y mx).big (l.gc x mx).big) fin
 ·obtain⟨x,rfl⟩:=vio G
  obtain⟨b,cap,g,rfl,O,C,A,B⟩:=J.one;exact qdh rfl nt C B (.inl ⟨rfl,rfl⟩) F (λD z W a b d f=>qij (o:=16) (by simp[vq]) (H b f) (vk3 (d.below f)) (qcc A (I a f)) ⟨by rw[pX];decide,nh⟩ (l.gc x mx).big) fin
 ·obtain⟨x,rfl⟩:=vio G
  obtain⟨b,cap,g,rfl,O,C,A,B⟩:=J.one;exact qdh rfl nt C B (.inr ⟨rfl,rfl⟩) F (λD z W a b d f=>qij (o:=17) (by simp[vq]) (H b f) (vk3 (d.below f)) (qcc A (I a f)) ⟨by rw[pX];decide,nh⟩ (l.gc x mx).big) fin
 ·obtain⟨x,y,z,rfl⟩:=vmw G
  obtain⟨b,cap,g,k,j,rfl,C,A,K,hz,B⟩:=J.three;exact qff rfl nt C B F A K hz S (l.gc x mx).big (l.gc y mx).big (l.gc z mx).big (qnk (by simp[vq]) (l.gc y mx) (l.gc x mx)) (qnk (by simp[vq]) (l.gc x mx) (l.gc z mx))
 ·obtain⟨x,rfl⟩:=vio G
  obtain⟨b,cap,g,rfl,O,C,A,B⟩:=J.one;exact vc2 rfl nt C B F (λD z W a b d f=>vky (H b f) (I a f) A (l.gc x mx) (l.nm rfl x mx) cE (l.tx rfl).1 X.2 (l.tx rfl).2) fin
 ·obtain⟨x,rfl⟩:=vio G
  obtain⟨b,cap,g,rfl,O,C,A,B⟩:=J.one;have L:=l.gc x mx;have cS:str.length<=200:=X.1;have FF:=p9 str;have dS:=p9 esc
  have PI:esc.length<=1:=by
   rcases(F8.like rfl).2 with h|h
   ·have h:esc=[]:=h
    rw[h];decide
   ·have h:esc.length=1:=h.1
    omega
  have B9:g.text.length<=400000000:=by rw[A.text];exact L.big.1
  by_cases he:esc=[]
  ·subst he
   refine qkr (q:=qL str) rfl nt C B rfl B9 mw (xF (BS str) (by rw[qG];omega)) F (P:=λr M=>RfAt (λb=>N b\/w.heap.size+1+1<=b) M (.un ⟨22,num,str,[]⟩ x) r) (λD z W a R d f=>?_) fin;have:=qka (N:=N) (p:=⟨22,num,str,[]⟩) (cap:=cap) (H R f) (I a f) A O C B L.big;rwa [show qp (.un ⟨22,num,str,[]⟩ x)=[40]++g.text++[32,76,73,75,69,32]++qL str++[41] by rw[A.text];show[40]++qp x++[32,76,73,75,69,32]++qL str++[]++[41]=_;simp]at this
  ·have hE:qg4 esc=[32,69,83,67,65,80,69,32]++qL esc:=by
    unfold qg4
    cases esc with
    | nil=>exact absurd rfl he
    | cons a b=>rfl
   refine qks (q:=qL str) (q':=qL esc) rfl nt C B (by rw[qM];cases esc with|nil=>exact absurd rfl he|cons a b=>rfl) B9 mw mw (xF (BS str) (by rw[qG];omega)) (xF (BS esc) (by rw[qG];omega)) F (P:=λr M=>RfAt (λb=>N b\/w.heap.size+1+1<=b) M (.un ⟨22,num,str,esc⟩ x) r) (λD z W a R d f=>?_) fin;have:=qka (N:=N) (p:=⟨22,num,str,esc⟩) (cap:=cap) (H R f) (I a f) A O C B L.big;rwa [show qp (.un ⟨22,num,str,esc⟩ x)=[40]++g.text++[32,76,73,75,69,32]++qL str++[32,69,83,67,65,80,69,32]++qL esc++[41] by rw[A.text];show[40]++qp x++[32,76,73,75,69,32]++qL str++qg4 esc++[41]=_;rw[hE];simp]at this
 ·obtain⟨x,rfl⟩:=vio G
  obtain⟨b,cap,g,rfl,O,C,A,B⟩:=J.one;have L:=l.gc x mx;exact qqz (T:=qp (.un ⟨23,num,str,esc⟩ x)) rfl nt C B (by rw[A.text];exact L.big.1) (by rw[A.text];rfl) F (λD z W a R d f=>qka (N:=N) (p:=⟨23,num,str,esc⟩) (cap:=cap) (H R f) (I a f) A O C B L.big) fin
end
end
section
attribute [local go_sem ↓] vk
theorem qqa:(prog.info? 184).map (λi=>(i.zero,i.size,i.bytes))=some (some (.agg #[.string ⟨#[]⟩,.string ⟨#[]⟩,.int .i64 0,.slice none 0 0,.slice none 0 0,.slice none 0 0]),6,112):=nl
def RfRow(w:World)(base:Nat)(v:Value)(fs:List RF):Prop:=w.ownsRow base 184 6 v fs.length (fs.flatMap qt)
theorem RfRow.nil(w:World)(base:Nat):RfRow w base (.slice none 0 0) []:=ed _ _ _ _
theorem RfRow.below{w':World}(h:RfRow w base v fs)(e:Xb w w'):RfRow w' base v fs:=qq h e nt
theorem RfRow.form(h:RfRow w base v fs):∃a c,v=.slice a fs.length c:=by
 rcases h.2 with⟨rfl,e⟩|⟨g,cap,cur,rfl,_⟩
 ·exact⟨none,0,by rw[e]⟩
 ·exact⟨_,_,rfl⟩
theorem RfRow.all(h:RfRow w base v fs)(e:fs≠[]):∃g cap,v=.slice (some ⟨g,0,none⟩) fs.length cap/\base<=g/\g<w.heap.size/\∀k,k<fs.length * 6->w.cell? ⟨g,k,none⟩=(fs.flatMap qt)[k]?:=by
 have q:=h;rcases h.2 with⟨rfl,l⟩|⟨g,cap,cur,rfl,r,u,_⟩
 ·exact absurd (cq l) e
 ·exact⟨g,cap,rfl,r,(cg.1 u).1,λk j=>World.ownsRow.cellAt q k j⟩
theorem RfRow.cell(h:RfRow w base v fs)(l:fs[i]?=some f):∃g cap,v=.slice (some ⟨g,0,none⟩) fs.length cap/\base<=g/\g<w.heap.size/\∀j,j<6->w.cell? ⟨g,i * 6+j,none⟩=(qt f)[j]?:=by
 have A:=(au.1 l).1;obtain⟨g,cap,e,z,u,r⟩:=h.all (by intro e;rw[e]at l;cases l);exact⟨g,cap,e,z,u,λj q=>(r (i * 6+j) mw).trans (vj4 qt 6 (λ_=>rfl) fs i f l j q)⟩
theorem RfRow.app(h:RfRow W base v fs)(B:base<=W.heap.size)(x:RF)(L:fs.length<=1000)(H:Nat)(C:W.heap.size=H):
  ∃g cap w5,(appR #[182,182] 182 #[v,.slice (some ⟨H,0,none⟩) 1 1]).run prog (W.alloc (.cells #[.string x.op,.string (BS x.text),.int .i64 x.cls,.slice x.pa x.pn x.pc,.slice x.ta x.tn x.tc,.slice x.ra x.rn x.rc] 184))=.ok (.slice (some ⟨g,0,none⟩) (fs.length+1) cap) w5 /\
   Hid (RfRow w5 base (.slice (some ⟨g,0,none⟩) (fs.length+1) cap) (fs++[x]))/\Hid (Below base W w5)/\Hid (∀b,b<W.heap.size->v.ownBlock≠some b->w5.heap[b]?=W.heap[b]?)/\Hid (v.ownBlock=some g\/W.heap.size<g)/\Hid (W.heap.size<=w5.heap.size):=by
 subst C;obtain⟨r,A,F,J,G⟩:=info_parts qqa;have q:=World.ownsRow.alloc h (.cells #[.string x.op,.string (BS x.text),.int .i64 x.cls,.slice x.pa x.pn x.pc,.slice x.ta x.tn x.tc,.slice x.ra x.rn x.rc] 184);obtain⟨g,cap,w5,u,K,l,I,_⟩:=run_append_lies (P:=prog) (W.alloc (.cells #[.string x.op,.string (BS x.text),.int .i64 x.cls,.slice x.pa x.pn x.pc,.slice x.ta x.tn x.tc,.slice x.ra x.rn x.rc] 184)) 182 182 base 184 r _ 6 112 underlying182 A F J G rfl mw v fs.length _ q
  ⟨W.heap.size,0,none⟩ 1 1 (qt x) rfl (World.news_of_block (cs:=#[.string x.op,.string (BS x.text),.int .i64 x.cls,.slice x.pa x.pn x.pc,.slice x.ta x.tn x.tc,.slice x.ra x.rn x.rc]) (t:=184) (fr:=(0,0)) (heap_alloc_new W _)) (by simp[qt,Value.oneCell']) mw (by unfold maxLen;omega) mw my _ rfl
 refine⟨g,cap,w5,u,qd ?_,qd ?_,qd ?_,qd ?_,qd ?_⟩
 ·show World.ownsRow _ _ _ _ _ _ _
  rw[bu,da,ij];simpa using K
 ·exact Go.RowKit.Below.grown (((Below.refl base W).alloc B _)) l my (λk z=>(q.lt k z).1)
 ·intro b D j
  exact(l.block b my (λe=>j e.symm)).trans (((Below.refl W.heap.size W).alloc nt _).block b D)
 ·rcases I with h|h
  ·exact .inl h
  ·right;rw[h];simp
 ·have:=l.size;simp at this;omega
structure ClAt(w wr:World)(av:Value)(cs:List Co)(fs:List RF):Prop where
 row:RfRow wr (w.heap.size+1) av fs
 co:CsOf (λb=>w.heap.size+1<=b/\av.ownBlock≠some b) wr cs fs
 bel:Below (w.heap.size+1) (w.alloc zoC) wr
section
variable {w wr w':World} {av:Value} {cs:List Co} {fs:List RF}
theorem ClAt.bel0(h:ClAt w wr av cs fs):Xb w wr:=(nw.alloc nt _).trans (h.bel.mono (Nat.le_succ _))
theorem ClAt.size(h:ClAt w wr av cs fs):w.heap.size+1<=wr.heap.size:=by have:=h.bel.size;simpa using this
theorem ClAt.below(h:ClAt w wr av cs fs)(e:Xb wr w'):ClAt w w' av cs fs:=⟨h.row.below e,h.co.below e,h.bel.trans (e.mono h.size)⟩
theorem ClAt.blk(h:ClAt w wr av cs fs)(e:av.ownBlock=some b):b<wr.heap.size:=(h.row.lt b e).2
theorem ClAt.snoc(h:ClAt w wr av cs fs){j:Value}{w5:World}(C:RfAt (λb=>w.heap.size+1<=b/\av.ownBlock≠some b) wr c f)(G:j=.slice (some ⟨g,0,none⟩) n cap)(F:RfRow w5 (w.heap.size+1) j (fs++[f]))(D:Below (w.heap.size+1) wr w5)(B:∀b,b<wr.heap.size->av.ownBlock≠some b->w5.heap[b]?=wr.heap[b]?)(u:av.ownBlock=some g\/wr.heap.size<g)(A:wr.heap.size<=w5.heap.size):ClAt w w5 j (cs++[c]) (fs++[f]):=by
 have z:∀b,(w.heap.size+1<=b/\av.ownBlock≠some b)->b<wr.heap.size->(w.heap.size+1<=b/\j.ownBlock≠some b):=λb l r=>⟨l.1,λe=>by
  rw[G]at e;have e:g=b:=by simpa [Value.ownBlock]using e
  subst e;rcases u with u|u
  ·exact l.2 u
  ·omega⟩
 refine⟨F,⟨by simp[h.co.1],λi d k hd q=>?_⟩,h.bel.trans D⟩;have H:=h.co.1
 by_cases hi:i<cs.length
 ·rw[bw hi]at hd
  rw[bw mw]at q;exact(h.co.2 i d k hd q).keep (λb l r=>B b r l.2) A z
 ·rw[cj mw]at hd
  rw[cj mw]at q
  have e:i=cs.length:=by
   have:=(au.1 hd).1;simp at this;omega
  subst e;rw[iu]at hd;rw[H,iu]at q;obtain rfl:c=d:=by simpa using hd
  obtain rfl:f=k:=by simpa using q
  exact C.keep (λb l r=>B b r l.2) A z
end
def rf0:RF:=⟨⟨#[]⟩,[],0,none,0,0,none,0,0,none,0,0⟩
theorem qrb(c0:w.cell? ⟨rb,0,none⟩=some (.slice (some ⟨g,0,none⟩) LN cap))(hN:NodesAt w rb (.slice (some ⟨g,0,none⟩) LN cap) ns)(V4:rb<w.heap.size)(hne:0<ns.length)(B8:ns.length<=1000)
  (hf:∀i n,ns[i]?=some n->∃o,NF i n o) (hg:∀n∈ns,∃p,NG n p) (O9:qiw [] ns) :
  nz 125 #[.pointer (some ⟨rb,0,none⟩)] w (xo (λ_=>False) w ((kB [] ns).getD (ns.length - 1) nC)):=by
 have dZ:LN=ns.length:=by
  obtain⟨rs,_,ho,_⟩:=hN;obtain⟨_,H|⟨g',cap',cur,e,_⟩⟩:=ho
  ·cases H.1
  ·injection e with _ e2 _
 have wX:g<w.heap.size:=by
  obtain⟨rs,_,ho,_⟩:=hN;exact(ho.lt g rfl).2
 obtain⟨R,hR⟩:∃r,(kB [] ns).getD (ns.length - 1) nC=r:=⟨_,rfl⟩;rw[hR];have HR:Hid ((kB [] (ns.take LN)).getD (LN - 1) nC=R):=qd (by rw[dZ,fk];exact hR);have HN:=qd hN;have HF:=qd hf;have HG:=qd hg;have aQ:=qd dZ;have oH:=qd O9;have V5:0<LN:=mw;have IM:LN<=1000:=mw;clear hN hf hg dZ hR hne B8 O9;go_enter func125,ntmps125
 go_wp2_with fail
 go_loopw [3,4] (λav i wr=>∃k:Nat,k<=LN/\i=.int .i64 k/\∃fs,Hid (ClAt w wr av (kB [] (ns.take k)) fs)) (λ_ i _=>LN - (intOf i).toNat)
 case atStart=>exact⟨0,bj _,rfl,[],qd ⟨RfRow.nil _ _,⟨rfl,λi c f h=>by simp[kB]at h⟩,nw⟩⟩
 case round=>
  obtain⟨k,hk,rfl,fs,l⟩:=hrel;obtain⟨cs,M3⟩:∃cs,kB [] (ns.take k)=cs:=⟨_,rfl⟩;rw[M3]at l;have iJ:fs.length=k:=by rw[(q9 l).co.1,←M3,vcj];have:=q9 aQ;simp;omega
  have sW:=qd M3;have DX:=qd iJ;have Z:=(q9 l).bel0;have t9:=(q9 l).size;have d0:wr.cell? ⟨rb,0,none⟩=some (.slice (some ⟨g,0,none⟩) LN cap):=((qj Z).1 _ 0 V4).trans c0;have V3:rb<wr.heap.size:=mw
  by_cases A0:k<LN
  ·obtain⟨n,hn⟩:∃n,ns[k]?=some n:=⟨_,ag (by have:=q9 aQ;omega)⟩
   obtain⟨o,eV⟩:=q9 HF k n hn;have aF:=eV.ins;have G9:=eV.few;have sA:=vi4 oH hn M3;obtain⟨p,⟨ins,neg,c,rfl,LJ⟩,wM,eL,eM,dK,F8⟩:=q9 HG n (ch hn);have wJ:qcx { js p ins neg with cls:=c }=p:=xQ (ins:=ins) (neg:=neg) wM eL;obtain⟨xs,lW⟩:∃xs,ins.map (λq=>cs.getD q nC)=xs:=⟨_,rfl⟩
   have G8:NdC p neg xs:=by
    rw[wJ]at sA;have e:vfa cs { js p ins neg with cls:=c }=xs:=lW;rw[e]at sA;exact sA
   have uF:=(q9 HN).below V4 Z;obtain⟨nY,iv,lv,nI,mZ,M⟩:=uF.cells hn;have m7:RowOf wr rb 3 iv (gK ins):=nI;have Z6:RowOf wr rb 9 lv (qu p.texts):=mZ;have aF:∀q∈ins,q<k:=aF;clear nY nI mZ sA;have e0:wr.cell? ⟨g,k * 9,none⟩=some (.string (BS (qD p.op))):=by have:=M 0 mw;rw[Nat.add_zero]at this;exact this
   have e1:wr.cell? ⟨g,k * 9+1,none⟩=some (.int .i64 p.place):=M 1 mw;have e2:wr.cell? ⟨g,k * 9+2,none⟩=some iv:=M 2 mw;have e3:wr.cell? ⟨g,k * 9+3,none⟩=some (.string (BS p.str)):=M 3 mw;have e4:wr.cell? ⟨g,k * 9+4,none⟩=some (.string (BS p.esc)):=M 4 mw;have e5:wr.cell? ⟨g,k * 9+5,none⟩=some lv:=M 5 mw;have e6:wr.cell? ⟨g,k * 9+6,none⟩=some (.int .i64 p.num):=M 6 mw;have e7:wr.cell? ⟨g,k * 9+7,none⟩=some (.bool neg):=M 7 mw;have e8:wr.cell? ⟨g,k * 9+8,none⟩=some (.int .i64 c):=M 8 mw;have JB:=qd Z6.txt;obtain⟨ia,ic,rfl,FM⟩:=m7.nums;obtain⟨la,lc,rfl,_⟩:=Z6.txt;obtain⟨A,EM⟩:∃A,ins.map (λq=>fs.getD q rf0)=A:=⟨_,rfl⟩;have NR:A.length=ins.length:=by rw[←EM,ep]
   obtain⟨X,U,rfl⟩:=(q9 l).row.form
   have TY:Hid (CsOf (λb=>w.heap.size+1<=b/\(Value.slice X fs.length U).ownBlock≠some b) wr xs A):=qd ⟨by rw[←lW,←EM];simp,λi x y H D=>by
    rw[←lW,dd]at H;rw[←EM,dd]at D
    cases S:ins[i]? with
    | none=>rw[S]at H;cases H
    | some q=>
     rw[S]at H D;have OK:=aF q (ch S);have sF:=(q9 l).co.1;simp only[it]at H D;injection H with H;injection D with D;rw[aq,ag mw]at H D
     exact l.co.2 q x y (by rw[←H,ag mw];rfl) (by rw[←D,ag mw];rfl)⟩
   have iI:xs.length=ins.length:=by rw[←lW,ep]
   obtain⟨r,hr⟩:∃r,kn p xs=r:=⟨_,rfl⟩
   have RV:Hid (∀(N:Nat->Prop) (W:World) (inv:Value),CsIn N W inv xs->(∀b,N b->b<W.heap.size)->TxtAt W (.slice la p.texts.length lc) p.texts->nz 178 #[.agg #[.string (BS (qD p.op)),.int .i64 p.place,.slice ia ins.length ic,.string (BS p.str),.string (BS p.esc),.slice la p.texts.length lc,.int .i64 p.num,.bool neg,.int .i64 c],inv] W λe w'=>Xb W w'/\∃q:RF,e=.returned (.agg #[.string q.op,.string (BS q.text),.int .i64 q.cls,.slice q.pa q.pn q.pc,.slice q.ta q.tn q.tc,.slice q.ra q.rn q.rc])/\RfAt (λb=>N b\/W.heap.size<=b) w' r q):=qd λN W inv h1 h2 h3=>by
    rw[←hr];exact qvz h1 h2 h3 wM eL G8 eM dK F8
   have RN:Hid (neg=true->∀(N:Nat->Prop) (W:World) (f:RF),RfAt N W r f->(∀b,N b->b<W.heap.size)->nz 179 #[.agg #[.string f.op,.string (BS f.text),.int .i64 f.cls,.slice f.pa f.pn f.pc,.slice f.ta f.tn f.tc,.slice f.ra f.rn f.rc]] W λe w'=>Xb W w'/\∃q:RF,e=.returned (.agg #[.string q.op,.string (BS q.text),.int .i64 q.cls,.slice q.pa q.pn q.pc,.slice q.ta q.tn q.tc,.slice q.ra q.rn q.rc])/\RfAt (λb=>N b\/W.heap.size<=b) w' (qW r) q):=qd λh N W f h1 h2=>by
    rw[←hr]at h1 ⊢;exact gu _ G8.all.wt (G8.no h) G8.all.sz N W f h1 h2
   have oG:Hid (kB [] (ns.take (k+1))=cs++[if neg=true then qW r else r]):=qd (by
    rw[qwu hn (q9 sW)]
    congr 2
    unfold qev;rw[wJ,show vfa cs { js p ins neg with cls:=c }=xs from lW,hr]
    rfl)
   have HYS:=qd EM;have IW:=qd NR;have DW:=qd iI;have BQ:Hid (∀q∈ins,q<k):=qd aF;have h3:ins.length<=3:=G9;obtain⟨K,nE⟩:∃x,ins.length=x:=⟨_,rfl⟩;have fZ:=qd nE;obtain⟨lT,mC⟩:∃x,p.texts.length=x:=⟨_,rfl⟩;rw[nE]at e2 RV h3;rw[mC]at e5 RV JB;have BK:=qd FM;have N5:(0:Int)<=(k:Int):=mw;have A5:(k:Int)<(LN:Int):=mw;have ng:¬g=wr.heap.size:=by have:=Z.size;omega
   have nr:¬rb=wr.heap.size:=mw;have V9:g<wr.heap.size:=by have:=Z.size;omega
   obtain⟨W,hW⟩:∃W:World,W=wr.alloc (.cells #[.string (BS (qD p.op)),.int .i64 p.place,.slice ia K ic,.string (BS p.str),.string (BS p.esc),.slice la lT lc,.int .i64 p.num,.bool neg,.int .i64 c] 241):=⟨_,rfl⟩;have lH:Xb wr W:=hW ▸ nw.alloc nt _
   have cK:∀k,W.cell? ⟨wr.heap.size,k,none⟩=#[.string (BS (qD p.op)),.int .i64 p.place,.slice ia K ic,.string (BS p.str),.string (BS p.esc),.slice la lT lc,.int .i64 p.num,.bool neg,.int .i64 c][k]?:=λk=>by rw[hW,cd _ _ _ _ mx]
   have mF:W.heap.size=wr.heap.size+1:=by rw[hW];simp
   have HW:=qd hW;have IZ:=qd lH;have BE:=qd mF;have P:=qd cK;rw[iJ]at l TY ⊢;clear hn eV aF G9 LJ wM eL eM dK F8 uF m7 Z6 M FM lW EM iI NR hr nE mC hW lH cK mF M3 iJ Z sW wJ G8
   go_wp2_with fail
   rw[←q9 HW];clear e0 e1 e2 e3 e4 e5 e6 e7 e8;obtain⟨B,rfl⟩:∃B:World,B=wr:=⟨_,rfl⟩
   go_loopw [6,7] (λnv j wq=>∃m:Nat,m<=K/\j=.int .i64 m/\Hid (RfRow wq W.heap.size nv (A.take m))/\Hid (Xb W wq)) (λ_ j _=>K - (intOf j).toNat)
   case atStart=>exact⟨0,bj _,rfl,qd (RfRow.nil _ _),qd nw⟩
   case round=>
    obtain⟨m,hm,rfl,Y,BM⟩:=hrel;obtain⟨O,rB⟩:=qj BM;have NO:=(q9 BM).size;have mF:=q9 BE;have L:=qd (qf IZ BM);have f0:wr.cell? ⟨B.heap.size,0,none⟩=some (.string (BS (qD p.op))):=(O _ 0 mw).trans (P 0);have f1:wr.cell? ⟨B.heap.size,1,none⟩=some (.int .i64 p.place):=(O _ 1 mw).trans (P 1);have f2:wr.cell? ⟨B.heap.size,2,none⟩=some (.slice ia K ic):=(O _ 2 mw).trans (P 2);have f3:wr.cell? ⟨B.heap.size,3,none⟩=some (.string (BS p.str)):=(O _ 3 mw).trans (P 3);have f4:wr.cell? ⟨B.heap.size,4,none⟩=some (.string (BS p.esc)):=(O _ 4 mw).trans (P 4);have f5:wr.cell? ⟨B.heap.size,5,none⟩=some (.slice la lT lc):=(O _ 5 mw).trans (P 5);have f6:wr.cell? ⟨B.heap.size,6,none⟩=some (.int .i64 p.num):=(O _ 6 mw).trans (P 6);have f7:wr.cell? ⟨B.heap.size,7,none⟩=some (.bool neg):=(O _ 7 mw).trans (P 7);have f8:wr.cell? ⟨B.heap.size,8,none⟩=some (.int .i64 c):=(O _ 8 mw).trans (P 8);clear O rB
    by_cases hml:m<K
    ·obtain⟨q,S⟩:∃q,ins[m]?=some q:=⟨_,ag (by have:=q9 fZ;omega)⟩
     have OK:q<k:=q9 BQ q (ch S);obtain⟨lb,rfl,L9,nD⟩:=q9 BK m q S;have hql:wr.cell? ⟨lb,m,none⟩=some (.int .i64 (q:Int)):=(L.cell (p:=⟨lb,m,none⟩) L9).trans nD;obtain⟨y,D⟩:∃y,fs[q]?=some y:=⟨_,ag (by have:=q9 DX;omega)⟩;obtain⟨z,LX,AL,_,S6,C⟩:=(q9 l).row.cell D;injection AL with AL AK AJ;subst AL AJ;have a0:wr.cell? ⟨z,q * 6,none⟩=some (.string y.op):=(L.cell (p:=⟨z,q * 6,none⟩) S6).trans (C 0 mw);have a1:wr.cell? ⟨z,q * 6+1,none⟩=some (.string (BS y.text)):=(L.cell (p:=⟨z,q * 6+1,none⟩) S6).trans (C 1 mw);have a2:wr.cell? ⟨z,q * 6+2,none⟩=some (.int .i64 y.cls):=(L.cell (p:=⟨z,q * 6+2,none⟩) S6).trans (C 2 mw);have a3:wr.cell? ⟨z,q * 6+3,none⟩=some (.slice y.pa y.pn y.pc):=(L.cell (p:=⟨z,q * 6+3,none⟩) S6).trans (C 3 mw);have a4:wr.cell? ⟨z,q * 6+4,none⟩=some (.slice y.ta y.tn y.tc):=(L.cell (p:=⟨z,q * 6+4,none⟩) S6).trans (C 4 mw);have a5:wr.cell? ⟨z,q * 6+5,none⟩=some (.slice y.ra y.rn y.rc):=(L.cell (p:=⟨z,q * 6+5,none⟩) S6).trans (C 5 mw);have tI:A[m]?=some y:=by rw[←q9 HYS,dd,S,it,aq,D];rfl
     have rV:(A.take m).length=m:=by rw[dh,q9 IW];have:=q9 fZ;omega
     obtain⟨g5,M9,w5,R9,T,P6,_⟩:=(q9 Y).app mw y mw wr.heap.size rfl;rw[show A.take m++[y]=A.take (m+1) by rw[dn,tI];rfl,rV]at T;rw[rV]at R9;obtain⟨na,nc,rfl⟩:=(q9 Y).form;rw[rV]at R9 ⊢;have sB:(0:Int)<=(m:Int):=mw;have mB:(m:Int)<(K:Int):=mw;have FF:(0:Int)<=(q:Int):=mw;have dS:(q:Int)<(k:Int):=mw;clear S nD C D tI rV Y f0 f1 f3 f4 f5 f6 f7 f8 AK
     go_wp2_with fail
     go_roundw
     case rel=>exact⟨m+1,mw,by go_num,T,qd (BM.trans P6)⟩
     case measure=>simp[intOf];omega
    ·have CW:m=K:=mw
     have oT:A.take m=A:=ez (by have:=q9 IW;have:=q9 fZ;omega);rw[oT]at Y;have cZ:A.length=K:=by have:=q9 IW;have:=q9 fZ;omega
     have ZE:=qd (l.below L);have FJ:∀b,(Value.slice X k U).ownBlock=some b->b<B.heap.size:=λb h=>l.blk h
     have MM:Hid (∀b,B.heap.size<b->(Value.slice X k U).ownBlock≠some b):=qd λb h e=>by have:=FJ b e;omega
     obtain⟨na,nc,rfl⟩:=(q9 Y).form
     have UB:Hid (CsIn (λb=>(w.heap.size+1<=b/\(Value.slice X k U).ownBlock≠some b)/\b<wr.heap.size) wr (.slice na A.length nc) xs):=qd (by
      refine⟨A,(TY.below L).keep (λ_ h hl=>⟨h,hl⟩), ?_⟩
      by_cases Z4:xs=[]
      ·exact .inl Z4
      ·right
       have rU:A≠[]:=λe=>Z4 (cq (by have:=q9 DW;have:=q9 IW;rw[e]at this;simp at this;omega))
       obtain⟨gb,gc,e,h1,h2,h3⟩:=(q9 Y).all rU;have sF:A.length=xs.length:=by have:=q9 DW;have:=q9 IW;omega
       exact⟨gb,gc,by rw[e,sF],⟨⟨mw,q9 MM gb mw⟩,h2⟩,h2,λj hj=>h3 j mw⟩)
     rw[cZ]at UB Y ⊢;have IU:=qd (JB.below L);have KV:¬(m:Int)<(K:Int):=mw;have EL:B.heap.size<wr.heap.size:=mw;have EQ:=q9 DX;have F2:w.heap.size+1<=wr.heap.size:=mw;have YT:=qd (RV _ wr _ UB (λb h=>h.2) IU);clear oT CW cZ Y BM IZ l FJ RV UB IU TY
     cases neg with
     | false=>
      go_wp2_with(go_at_call 178;refine YT.mono ?_;rintro e u⟨I,rf,rfl,iN⟩;have D8:=I.size;obtain⟨I1,K9⟩:=qj I;have k7:=(I1 _ 7 EL).trans f7;have wA:B.heap.size<u.heap.size:=mw;have JM:=qd (ZE.below (I.alloc I.size (.cells #[.string rf.op,.string (BS rf.text),.int .i64 rf.cls,.slice rf.pa rf.pn rf.pc,.slice rf.ta rf.tn rf.tc,.slice rf.ra rf.rn rf.rc] 184)));have cA:=qd ((iN.keep (N':=λb=>w.heap.size+1<=b/\(Value.slice X k U).ownBlock≠some b) (λ_ _ _=>rfl) nt (λb h _=>(by rcases h with h|h;exact h.1;exact⟨mw,q9 MM b mw⟩))).below ((Below.refl u.heap.size u).alloc nt (.cells #[.string rf.op,.string (BS rf.text),.int .i64 rf.cls,.slice rf.pa rf.pn rf.pc,.slice rf.ta rf.tn rf.tc,.slice rf.ra rf.rn rf.rc] 184)));obtain⟨g5,M9,w5,R9,T,P6,Z0,EG,DV⟩:=(q9 JM).row.app my rf mw (u.heap.size+1) mx;rw[EQ]at R9 T;clear I I1 K9 iN)
      go_roundw
      case rel=>exact⟨k+1,mw,by go_num,_,qd (by rw[q9 oG];exact JM.snoc cA rfl T P6 Z0 EG DV)⟩
      case measure=>simp[intOf];omega
     | true=>
      have SF:=qd (RN rfl)
      go_wp2_with(first|(go_at_call 179;have _q:=F9;refine(SF (λb=>(w.heap.size+1<=b/\(Value.slice X k U).ownBlock≠some b/\b≠u.heap.size)/\b<u.heap.size+1) (u.alloc (.cells #[.string rf.op,.string (BS rf.text),.int .i64 rf.cls,.slice rf.pa rf.pn rf.pc,.slice rf.ta rf.tn rf.tc,.slice rf.ra rf.rn rf.rc] 184)) rf cA (λb h=>(by have:=h.2;simp;omega))).mono ?_;rintro e J⟨D6,F,rfl,WD⟩;obtain⟨S7,lA⟩:=qj D6;have S4:u.heap.size+1<=J.heap.size:=(by have:=D6.size;simp at this;omega);have v0:J.cell? ⟨u.heap.size,0,none⟩=some (.string rf.op):=(S7 _ 0 mx).trans mx;have v1:J.cell? ⟨u.heap.size,1,none⟩=some (.string (BS rf.text)):=(S7 _ 1 mx).trans mx;have v2:J.cell? ⟨u.heap.size,2,none⟩=some (.int .i64 rf.cls):=(S7 _ 2 mx).trans mx;have v3:J.cell? ⟨u.heap.size,3,none⟩=some (.slice rf.pa rf.pn rf.pc):=(S7 _ 3 mx).trans mx;have v4:J.cell? ⟨u.heap.size,4,none⟩=some (.slice rf.ta rf.tn rf.tc):=(S7 _ 4 mx).trans mx;have v5:J.cell? ⟨u.heap.size,5,none⟩=some (.slice rf.ra rf.rn rf.rc):=(S7 _ 5 mx).trans mx;have vz:Xf J u.heap.size:=(λi=>(lA _ i mx).trans mx);have Q:=jm J u.heap.size (.string F.op) (.string (BS F.text)) (.int .i64 F.cls) (.slice F.pa F.pn F.pc) (.slice F.ta F.tn F.tc) (.slice F.ra F.rn F.rc);have JM:=qd (ZE.below (Q.bel _ _ D8 (qf F9 D6)));have SH:=qd (Q.rf (N':=λb=>w.heap.size+1<=b/\(Value.slice X k U).ownBlock≠some b) WD (by rintro (h|h);exact h.1.2.2 rfl;simp at h;omega) (λb h _=>(by rcases h with h|h;exact⟨h.1.1,h.1.2.1⟩;simp at h;exact⟨mw,q9 MM b mw⟩)));obtain⟨g5,M9,w5,R9,T,P6,Z0,EG,DV⟩:=(q9 JM).row.app (by rw[Q.size];omega) F mw J.heap.size Q.size;rw[EQ]at R9 T;clear D6 S7 lA WD Q)|(go_at_call 178;refine YT.mono ?_;rintro e u⟨I,rf,rfl,iN⟩;have D8:=I.size;obtain⟨I1,K9⟩:=qj I;have k7:=(I1 _ 7 EL).trans f7;have wA:B.heap.size<u.heap.size:=mw;have F9:=qd (I.alloc I.size (.cells #[.string rf.op,.string (BS rf.text),.int .i64 rf.cls,.slice rf.pa rf.pn rf.pc,.slice rf.ta rf.tn rf.tc,.slice rf.ra rf.rn rf.rc] 184));have cA:=qd ((iN.keep (N':=λb=>(w.heap.size+1<=b/\(Value.slice X k U).ownBlock≠some b/\b≠u.heap.size)/\b<u.heap.size+1) (λ_ _ _=>rfl) nt (λb h hl=>(by rcases h with h|h;exact⟨⟨h.1.1,h.1.2,mw⟩,mw⟩;exact⟨⟨mw,q9 MM b mw,mw⟩,mw⟩))).below ((Below.refl u.heap.size u).alloc nt (.cells #[.string rf.op,.string (BS rf.text),.int .i64 rf.cls,.slice rf.pa rf.pn rf.pc,.slice rf.ta rf.tn rf.tc,.slice rf.ra rf.rn rf.rc] 184)));clear I I1 K9 iN))
      go_roundw
      case rel=>exact⟨k+1,mw,by go_num,_,qd (by rw[q9 oG,bh trivial];exact JM.snoc SH rfl T P6 Z0 EG DV)⟩
      case measure=>simp[intOf];omega
  ·have U6:k=LN:=mw
   subst U6;obtain⟨y,D⟩:∃y,fs[k - 1]?=some y:=⟨_,ag mw⟩;obtain⟨z,LX,rfl,_,S6,C⟩:=(q9 l).row.cell D
   have MG:Hid (RfAt (λb=>w.heap.size+1<=b/\(Value.slice (some ⟨z,0,none⟩) fs.length LX).ownBlock≠some b) wr R y):=qd (l.co.2 (k - 1) R y (by
    have O5:cs.length=k:=by have:=(q9 l).co.1;omega
    rw[←q9 HR,q9 sW,aq,ag mw];rfl) D)
   obtain⟨G,rfl⟩:∃G,k=G+1:=⟨k - 1,mw⟩;rw[show G+1 - 1=G by omega]at C;have y0:wr.cell? ⟨z,G * 6,none⟩=some (.string y.op):=C 0 mw;have y1:wr.cell? ⟨z,G * 6+1,none⟩=some (.string (BS y.text)):=C 1 mw;have y2:wr.cell? ⟨z,G * 6+2,none⟩=some (.int .i64 y.cls):=C 2 mw;have y3:wr.cell? ⟨z,G * 6+3,none⟩=some (.slice y.pa y.pn y.pc):=C 3 mw;have y4:wr.cell? ⟨z,G * 6+4,none⟩=some (.slice y.ta y.tn y.tc):=C 4 mw;have y5:wr.cell? ⟨z,G * 6+5,none⟩=some (.slice y.ra y.rn y.rc):=C 5 mw;have r0:wr.cell? ⟨w.heap.size,0,none⟩=some (.string ⟨#[]⟩):=(l.bel.cell (p:=⟨w.heap.size,0,none⟩) (dj _)).trans mx;have r1:wr.cell? ⟨w.heap.size,1,none⟩=some (.string ⟨#[]⟩):=(l.bel.cell (p:=⟨w.heap.size,1,none⟩) (dj _)).trans mx;have r2:wr.cell? ⟨w.heap.size,2,none⟩=some (.int .i64 0):=(l.bel.cell (p:=⟨w.heap.size,2,none⟩) (dj _)).trans mx;have r3:wr.cell? ⟨w.heap.size,3,none⟩=some (.slice none 0 0):=(l.bel.cell (p:=⟨w.heap.size,3,none⟩) (dj _)).trans mx;have r4:wr.cell? ⟨w.heap.size,4,none⟩=some (.slice none 0 0):=(l.bel.cell (p:=⟨w.heap.size,4,none⟩) (dj _)).trans mx;have r5:wr.cell? ⟨w.heap.size,5,none⟩=some (.slice none 0 0):=(l.bel.cell (p:=⟨w.heap.size,5,none⟩) (dj _)).trans mx;have rz:Xf wr w.heap.size:=λi=>(l.bel.frozen (p:=⟨w.heap.size,i,none⟩) (dj _)).trans mx
   rw[iJ];rw[iJ]at MG;have J0:=qd Z;have A5:(G:Int)+1 - 1=(G:Int):=mw;clear D C M3 sW Z l
   go_wp2_with fail
   refine ak (by simp[go_sem,r0,r1,r2,r3,r4,r5]<;>rfl) rfl ?_;have Q:=jm wr w.heap.size (.string y.op) (.string (BS y.text)) (.int .i64 y.cls) (.slice y.pa y.pn y.pc) (.slice y.ta y.tn y.tc) (.slice y.ra y.rn y.rc);exact⟨Q.bel _ _ nt J0,y,rfl,Q.rf MG (λh=>absurd h.1 mw) (λb h _=>.inr (by have:=h.1;omega))⟩
end
section
theorem qjb(h:vj s=.ok t):∃c,qv t=.ok c:=by
 unfold vj at h
 by_cases hs:s.size<=200
 ·rw[bh hs]at h
  cases he:(lvl s 12).E (qg s st0) with
  | err en pl=>rw[he]at h;cases h
  | ok t1 st=>
   rw[he]at h
   change qju t1 st=_ at h
   unfold qju at h
   split at h
   ·split at h
    ·rename_i e
     injection h with h;subst h
     cases hc:qv t1 with
     | err q=>rw[hc]at e;cases e
     | ok c=>exact⟨c,rfl⟩
    ·cases h
   ·cases h
 ·rw[aj hs]at h;cases h
theorem qn9(h:vj s=.ok t):GcA t:=by
 obtain⟨r,l,e,q,z,j⟩:=ym h;obtain⟨k,u⟩:=qjb h;exact qtx t r l e z q j k u
theorem qrd(r:vj s=.ok t){cs:List Int}(l:Flat t 0 ns)(q:ShA t)(I:ns.length<=200)(c0:Xc w rb 0 (.slice (some ⟨g,0,none⟩) LN cap))(B:NodesAt w rb (.slice (some ⟨g,0,none⟩) LN cap) (ze ns cs))(G:rb<w.heap.size):
  nz 125 #[.pointer (some ⟨rb,0,none⟩)] w (xo (λ_=>False) w (qi t)):=by
 have A:(ze ns cs).length=ns.length:=qcr _ _;have J:=l.pos;have u:=qhs r;obtain⟨ds,F,H,D,C⟩:=qtj l q (qn9 r) [] rfl
 have key:=qrb c0 B G mw mw (λi n j=>by
   rw[xX]at j
   cases hm:ns[i]? with
   | none=>rw[hm]at j;cases j
   | some m=>
    rw[hm]at j;simp only[it]at j;injection j with j;obtain⟨o,a,b,c,d,e,f⟩:=qeu l q i m hm;rw[ee]at d;subst j
    exact⟨o,a,b,c,d,e,f⟩) (qnf (qv4 l q u.1 u.2 (pO r))) ((qny ns cs).2 C)
 have z:(kB [] (ze ns cs)).getD ((ze ns cs).length - 1) nC=qi t:=by
  rw[(qny ns cs).1,A,F,ej];exact D
 rw[z]at key;exact key
end
section
attribute [local go_sem ↓] vk
def trC(c:Co):List (List UInt8×Nat):=(qB c).zip (jJ c)
def g1T(a:List (List UInt8)×Nat)(s:List UInt8):List (List UInt8)×Nat:=match vj (BS s) with
 | .ok t=>(trC (qi t)).foldl ya a
 | .err _ _=>a
def gTs(ss:List (List UInt8))(k:Nat):List (List UInt8)×Nat:=(ss.take k).foldl g1T ([],0)
theorem qed{s:mv}(h:ss[k]?=some s):gTs ss (k+1)=g1T (gTs ss k) s:=by
 unfold gTs;rw[dn,h,List.foldl_append];rfl
theorem vd8:∀t,ShA t->qg6 t->BqA t->∀q∈jJ (qi t),q<=200:=by
 have G:∀p:CP,p.str.length<=200->qa0 p<=200:=λp h=>by unfold qa0;split<;>omega
 have D:∀o,qa0 (qm o)<=200:=λo=>G _ (by show(0:Nat)<=200;omega)
 have l:∀(o:Int) (x y:Co),(∀q∈jJ x,q<=200)->(∀q∈jJ y,q<=200)->∀q∈jJ (qk o x y),q<=200:=λo x y j B q e=>by
  unfold qk at e
  have two:∀u v:Co,(∀q∈jJ u,q<=200)->(∀q∈jJ v,q<=200)->q∈jJ (.bin (qm o) u v)->q<=200:=λu v L F h=>by
   rw[jJ]at h;rcases cr.1 h with h|h
   ·rcases cr.1 h with h|h
    ·exact L q h
    ·exact F q h
   ·rw[cp.1 h];exact D o
  split at e
  ·exact two y x B j e
  ·exact two x y j B e
 have K:∀(p:CP) (x:Co),qa0 p<=200->(∀q∈jJ x,q<=200)->∀q∈jJ (.un p x),q<=200:=λp x U j q e=>by
  rw[jJ]at e;rcases cr.1 e with h|h
  ·exact j q h
  ·rw[cp.1 h];exact U
 have S:∀c:Co,(∀q∈jJ c,q<=200)->∀q∈jJ (qW c),q<=200:=by
  intro c
  induction c with
  | leaf p=>
   intro h;unfold qW
   split
   ·intro q e;rw[jJ]at e;rw[cp.1 e];exact D 4
   ·split
    ·intro q e;rw[jJ]at e;rw[cp.1 e];exact D 3
    ·exact K _ _ (D 5) h
  | un p x ih=>
   intro h;unfold qW
   split
   ·intro q e;exact h q (by rw[jJ];exact fo _ e)
   ·exact K _ _ (D 5) h
  | bin p x y ihx ihy=>
   intro h;have J:∀q∈jJ x,q<=200:=λq e=>h q (by rw[jJ];exact fo _ (fo _ e))
   have I:∀q∈jJ y,q<=200:=λq e=>h q (by rw[jJ];exact fo _ (li _ e))
   unfold qW
   split
   ·exact l _ _ _ (ihx J) (ihy I)
   ·split
    ·exact l _ _ _ (ihx J) (ihy I)
    ·split
     ·exact l _ _ _ I J
     ·split
      ·exact l _ _ _ I J
      ·exact K _ _ (D 5) h
 have P:∀t:mv,t.length<=200->∀q∈jJ (qY t),q<=200:=λt T q e=>by
  rw[qY,jJ]at e;rw[cp.1 e];exact G _ T
 have M:∀(x:Co),(∀q∈jJ x,q<=200)->∀(r:List mv) (f:Co),(∀t∈r,t.length<=200)->(∀q∈jJ f,q<=200)->∀q∈jJ (jM x f r),q<=200:=by
  intro x j r
  induction r with
  | nil=>intro f _ O;exact O
  | cons t r ih=>intro f Q O;exact ih _ (λu L=>Q u (dq _ L)) (l _ _ _ O (l _ _ _ j (P t (Q t dp))))
 intro t
 induction t with
 | leaf p=>intro _ A _ q e;rw[qi,jJ]at e;rw[cp.1 e];exact G _ A.1
 | un p x ih=>
  intro C A e;have j:=ih C.2.2.2 A.2 e.2;have H:∀q∈jJ (kd 0),q<=200:=λq e=>by rw[kd,jJ]at e;rw[cp.1 e];exact G _ (by show(0:Nat)<=200;omega)
  rw[qi]
  split
  ·exact l _ _ _ H j
  ·split
   ·exact l _ _ _ H j
   ·split
    ·exact S _ j
    ·split
     ·unfold vt
      cases he:vf p.texts with
      | nil=>exact j
      | cons u r=>
       have R:∀v∈u::r,v.length<=200:=λv F=>e.1.2 v (kF (by rw[he];exact F))
       exact M _ j _ _ (λv F=>R v (dq _ F)) (l _ _ _ j (P u (R u dp)))
     ·exact K _ _ (G _ A.1.1) j
 | bin p x y ihx ihy=>
  intro C A e;have j:=ihx C.2.1 A.2.1 e.2.1;have B:=ihy C.2.2 A.2.2 e.2.2;rw[qi]
  split
  ·exact l _ _ _ B j
  ·split
   ·exact l _ _ _ B j
   ·split
    ·exact S _ (l _ _ _ j B)
    ·exact l _ _ _ j B
 | tri p x y z ihx ihy ihz=>
  intro C A e;have j:=ihx C.2.1 A.2.1 e.2.1;have B:=ihy C.2.2.1 A.2.2.1 e.2.2.1;have H:=ihz C.2.2.2 A.2.2.2 e.2.2.2;exact l _ _ _ (l _ _ _ B j) (l _ _ _ j H)
def GBnd(a:List (List UInt8)×Nat)(k:Nat):Prop:=a.1.length<=k/\a.2<=200 * k
theorem GBnd.mono{a:List mv×Nat}{e:Nat}(h:GBnd a k)(j:k<=e):GBnd a e:=⟨bs h.1 j,bs h.2 (lw _ j)⟩
theorem qsj{a:List mv×Nat}{e:mv×Nat}(h:GBnd a k)(j:e.2<=200):GBnd (ya a e) (k+1):=by
 unfold ya
 split
 ·exact⟨by have:=h.1;omega,by have:=h.2;omega⟩
 ·exact⟨by have:=h.1;simp;omega,by have:=h.2;simp only;omega⟩
theorem qn8:∀(l:List (mv×Nat)) {a:List mv×Nat} {k:Nat},GBnd a k->(∀e∈l,e.2<=200)->GBnd (l.foldl ya a) (k+l.length):=by
 intro l
 induction l with
 | nil=>intro a k h _;exact h
 | cons e l ih=>
  intro a k h j;have:=ih (qsj h (j e dp)) (λf q=>j f (dq _ q));rw[mg,eh];rwa [show k+(l.length+1)=k+1+l.length by omega]
theorem qy1(h:vj s=.ok t):(trC (qi t)).length<=120000001/\(∀e∈trC (qi t),e.2<=200)/\(trC (qi t)).length=(qB (qi t)).length:=by
 obtain⟨B,z,l,A,u,q⟩:=ym h;have gc:=(qn9 h).gc;have D:=yx _ gc.wt.wf;have C:=gc.len;have r:(trC (qi t)).length=(qB (qi t)).length:=by unfold trC;rw[List.length_zip,zI];omega
 refine⟨mw,λe j=>?_,r⟩;unfold trC at j;exact vd8 t l u q _ (List.of_mem_zip (a:=e.1) (b:=e.2) j).2
theorem vg0(ss:List mv)(k:Nat):GBnd (gTs ss k) (k * 120000001):=by
 induction k with
 | zero=>exact⟨nt,nt⟩
 | succ k ih=>
  cases h:ss[k]? with
  | none=>
   have:gTs ss (k+1)=gTs ss k:=by unfold gTs;rw[dn,h];simp
   rw[this];exact ih.mono (iw _ (Nat.le_succ k))
  | some s=>
   rw[qed h];unfold g1T
   split
   ·rename_i t e
    obtain⟨l,j,_⟩:=qy1 e;exact(qn8 _ ih j).mono (by rw[Nat.succ_mul];exact Nat.add_le_add_left l _)
   ·exact ih.mono (iw _ (Nat.le_succ k))
end
section
attribute [local go_sem ↓] vk
structure GaAt(w W3:World)(B2:Nat)(wq:World)(lv:Value)(ts:List (List UInt8)):Prop where
 row:TwRow wq w.heap.size lv ts
 bel:Below w.heap.size w wq
 size:W3.heap.size<=wq.heap.size
 keep:∀b,B2<=b->b<W3.heap.size->wq.heap[b]?=W3.heap[b]?
 own:∀k,lv.ownBlock=some k->k<B2\/W3.heap.size<=k
section
variable {w W3 wq w5:World} {B2:Nat} {lv:Value} {ts:List mv}
theorem GaAt.start(w:World):GaAt w w w.heap.size w (.slice none 0 0) []:=⟨ed _ _ _ _,nw,nt,λ_ _ _=>rfl,λk h=>by cases h⟩
theorem GaAt.form(h:GaAt w W3 B2 wq lv ts):∃a c,lv=.slice a ts.length c:=by
 rcases h.row.2 with⟨rfl,e⟩|⟨g,cap,cur,rfl,_⟩
 ·exact⟨none,0,by rw[e]⟩
 ·exact⟨_,_,rfl⟩
theorem GaAt.next(h:GaAt w W3 B2 wq lv ts){e l:World}(j:Xb wq e)(q:Xb e l):GaAt w l e.heap.size l lv ts:=
 ⟨qq h.row (qf j q) nt,qf h.bel (qf j q),nt,λ_ _ _=>rfl,λk r=>.inl (bg (h.row.lt k r).2 j.size)⟩
theorem GaAt.snoc(h:GaAt w W3 B2 wq lv ts){x:mv}(C:TwRow w5 w.heap.size (.slice (some ⟨g,0,none⟩) n cap) (ts++[x]))(B:Below w.heap.size wq w5)(A:∀b,b<wq.heap.size->lv.ownBlock≠some b->w5.heap[b]?=wq.heap[b]?)(j:lv.ownBlock=some g\/wq.heap.size<g)(z:wq.heap.size<=w5.heap.size):GaAt w W3 B2 w5 (.slice (some ⟨g,0,none⟩) n cap) (ts++[x]):=by
 have l:=h.size;refine⟨C,h.bel.trans B,bs l z,λb u q=>(A b (bg q l) (λe=>?_)).trans (h.keep b u q),λk r=>?_⟩
 ·rcases h.own b e with h|h<;>omega
 ·obtain rfl:g=k:=by simpa [Value.ownBlock]using r
  rcases j with j|j
  ·exact h.own g j
  ·right;omega
end
theorem qfh(h:TxIn w a ss)(h8:ss.length<=8):
  nz 127 #[.slice a ss.length cap] w λe w'=>e=.returned (.tuple #[.int .i64 ((gTs ss ss.length).1.length:Nat),.int .i64 ((gTs ss ss.length).2:Nat)])/\Xb w w':=by
 have H:=qd h;obtain⟨n,hn⟩:∃n,ss.length=n:=⟨_,rfl⟩;rw[hn]at h8 ⊢;have HN:=qd hn;clear h hn;go_enter func127,ntmps127
 go_wp2_with fail
 go_loopw [4,5,6] (λlv rv i wr=>∃(k:Nat) (W3:World) (B2:Nat),k<=n/\i=.int .i64 k/\rv=.int .i64 ((gTs ss k).2:Nat)/\Hid (GaAt w W3 B2 wr lv (gTs ss k).1)) (λ_ _ i _=>n - (intOf i).toNat)
 case atStart=>exact⟨0,w,w.heap.size,bj _,rfl,rfl,qd (GaAt.start w)⟩
 case round=>
  obtain⟨k,W3,B2,hk,rfl,rfl,G⟩:=hrel;have F:=vg0 ss k;obtain⟨A,hA⟩:∃A,gTs ss k=A:=⟨_,rfl⟩;rw[hA]at F G ⊢;have HA:=qd hA;obtain⟨la,lc,rfl⟩:=(q9 G).form;have hz:=(q9 G).bel.size;have A1:A.1.length<=8 * 120000001:=bs F.1 (iw _ mw);have A3:A.2<=200 * (8 * 120000001):=bs F.2 (lw _ (iw _ mw));clear hA F
  by_cases A0:k<n
  ·obtain⟨s,U⟩:∃s,ss[k]?=some s:=⟨_,ag (by have:=q9 HN;omega)⟩
   obtain⟨dA,sb,so,rfl,EW,s0⟩:=q9 H k s U;have d0:wr.cell? ⟨sb,so+k,none⟩=some (.string (BS s)):=(G.bel.cell (p:=⟨sb,so+k,none⟩) EW).trans s0;have OJ:sb<wr.heap.size:=mw;have N5:(0:Int)<=(k:Int):=mw;have A5:(k:Int)<(n:Int):=mw;have RD:=qd (kA (BS s) dA wr);have HS:Hid (gTs ss (k+1)=g1T A s):=qd (by rw[qed U,q9 HA])
   cases I3:vj (BS s) with
   | err en pl=>
    rw[I3]at RD;have hne:(en==0)=false:=by rcases vw I3 with h|h|h|h<;>rw[h]<;>rfl
    have wO:(en != 0)=true:=by rcases vw I3 with h|h|h|h<;>rw[h]<;>rfl
    have S:Hid (gTs ss (k+1)=A):=qd (by rw[q9 HS];unfold g1T;rw[I3]);clear I3 U HS s0
    go_wp2_with(go_at_call 123;refine RD.mono ?_;rintro e K⟨A3,rfl⟩;have MX:=qd (G.next A3 nw);clear A3)
    go_roundw
    case rel=>exact⟨k+1,K,K.heap.size,A0,by go_num,by rw[q9 S],by rw[q9 S];exact MX⟩
    case measure=>simp[intOf];omega
   | ok t=>
    rw[I3]at RD
    have CO:Hid (∀(W W':World) (rb:Nat),W.heap.size=rb->zM W (.ok t) (.returned (.tuple #[.pointer (some ⟨rb,0,none⟩),.int .i64 0,.int .i64 0])) W'->nz 125 #[.pointer (some ⟨rb,0,none⟩)] W' λe w'=>Xb W' w'/\∃r:RF,e=.returned (.agg #[.string r.op,.string (BS r.text),.int .i64 r.cls,.slice r.pa r.pn r.pc,.slice r.ta r.tn r.tc,.slice r.ra r.rn r.rc])/\RfAt (λb=>False\/W'.heap.size<=b) w' (qi t) r):=qd (by
     rintro W W' _ rfl⟨_,_,A0,ns,cs,g,LN,cap,E9,Z5,cS,c0,hN⟩
     exact qrd I3 E9 Z5 cS c0 hN A0)
    have S:Hid (gTs ss (k+1)=(trC (qi t)).foldl ya A):=qd (by rw[q9 HS];unfold g1T;rw[I3]);obtain⟨U3,KP,rX⟩:=qy1 I3;obtain⟨C,hC⟩:∃C,qi t=C:=⟨_,rfl⟩;rw[hC]at CO S U3 KP rX;have JC:=qd KP;have YO:=qd rX;clear I3 U HS s0 hC KP
    go_wp2_with(first|(go_at_call 125;have _q:=N2;refine(CO _ _ _ rfl N2).mono ?_;rintro e J⟨D6,r,rfl,hr⟩;have HR:=qd hr;have E8:=qd D6;clear D6 hr)|(go_at_call 123;refine RD.mono ?_;rintro e K A9;have N2:=qd A9;have ZT:=qd A9.1;obtain⟨_,rfl,_⟩:=A9))
    obtain⟨W,M⟩:∃W:World,W=J.alloc (.cells #[.string r.op,.string (BS r.text),.int .i64 r.cls,.slice r.pa r.pn r.pc,.slice r.ta r.tn r.tc,.slice r.ra r.rn r.rc] 184):=⟨_,rfl⟩;have lH:Xb J W:=M ▸ nw.alloc nt _
    have cK:∀k,W.cell? ⟨J.heap.size,k,none⟩=#[.string r.op,.string (BS r.text),.int .i64 r.cls,.slice r.pa r.pn r.pc,.slice r.ta r.tn r.tc,.slice r.ra r.rn r.rc][k]?:=λk=>by rw[M,cd _ _ _ _ mx]
    have mF:W.heap.size=J.heap.size+1:=by rw[M];simp
    have HG3:=qd (G.next ZT (qf E8 lH));have wB:=(q9 E8).size;obtain⟨⟨lt,tc,et,XJ,OT,lC⟩,B,rc,er,uF,FV,eX⟩:=(HR.at'.below lH).terms;rw[zI]at er;have HCT:=qd lC;have ZM:=qd eX;have hnt:K.heap.size<=lt:=by simpa using XJ
    have CT:K.heap.size<=B:=by simpa using uF
    obtain⟨l,I⟩:∃x,(qB C).length=x:=⟨_,rfl⟩;have e4:W.cell? ⟨J.heap.size,4,none⟩=some (.slice (some ⟨lt,0,none⟩) l tc):=by rw[cK 4,←I];exact congrArg some et
    have e5:W.cell? ⟨J.heap.size,5,none⟩=some (.slice (some ⟨B,0,none⟩) l rc):=by rw[cK 5,←I];exact congrArg some er
    have hnT2:l<=120000001:=by rw[←I,←q9 YO];exact U3
    have YZ:Hid ((trC C).length=l):=qd (by rw[q9 YO,I]);have HTR:Hid (∀m u q,(qB C)[m]?=some u->(jJ C)[m]?=some q->(trC C)[m]?=some (u,q)):=qd λm u q P L=>by unfold trC;rw[lu];exact⟨P,L⟩
    have uO:Hid ((qB C).length=l/\(jJ C).length=l):=qd ⟨I,by rw[zI,I]⟩;have HW:=qd M;rw[←M];clear lH cK M et er lC eX I U3 rX XJ uF HR E8 G RD CO N2 ZT d0;obtain⟨z,rfl⟩:∃z:World,z=J:=⟨_,rfl⟩
    go_loopw [4,5,11] (λlv rv j wq=>∃m:Nat,m<=l/\j=.int .i64 m/\rv=.int .i64 ((((trC C).take m).foldl ya A).2:Nat)/\Hid (GaAt w W K.heap.size wq lv (((trC C).take m).foldl ya A).1)) (λ_ _ j _=>l - (intOf j).toNat)
    case atStart=>exact⟨0,bj _,rfl,rfl,HG3⟩
    case round=>
     obtain⟨m,hm,rfl,rfl,D⟩:=hrel
     have F:GBnd (((trC C).take m).foldl ya A) (8 * 120000001+m):=by
      have:=qn8 ((trC C).take m) (a:=A) (k:=8 * 120000001) ⟨A1,A3⟩ (λe he=>q9 JC e (List.mem_of_mem_take he));rwa [dh,q9 YZ,me hm]at this
     obtain⟨X,hX⟩:∃X,((trC C).take m).foldl ya A=X:=⟨_,rfl⟩;rw[hX]at D F ⊢;have HX:=qd hX;have lX:=F.1;have EN:=F.2;obtain⟨qa,qc,rfl⟩:=(q9 D).form;have NO:=(q9 D).size;have O:=(q9 D).keep;have f4:wr.cell? ⟨z.heap.size,4,none⟩=some (.slice (some ⟨lt,0,none⟩) l tc):=(aw (w:=W) (a:=⟨z.heap.size,4,none⟩) (O z.heap.size wB mw)).trans e4;have f5:wr.cell? ⟨z.heap.size,5,none⟩=some (.slice (some ⟨B,0,none⟩) l rc):=(aw (w:=W) (a:=⟨z.heap.size,5,none⟩) (O z.heap.size wB mw)).trans e5;have R8:z.heap.size<wr.heap.size:=mw;clear hX F
     by_cases hml:m<l
     ·obtain⟨u,P⟩:∃u,(qB C)[m]?=some u:=⟨_,ag (by have:=(q9 uO).1;omega)⟩
      obtain⟨q,L⟩:∃q,(jJ C)[m]?=some q:=⟨_,ag (by have:=(q9 uO).2;omega)⟩;have OG:=q9 HTR m u q P L;have dS:q<=200:=q9 JC (u,q) (ch OG);have g0:wr.cell? ⟨lt,m,none⟩=some (.string (BS u)):=(aw (w:=W) (a:=⟨lt,m,none⟩) (O lt hnt OT)).trans (HCT m u P);have g1:wr.cell? ⟨B,m,none⟩=some (.int .i64 (q:Int)):=(aw (w:=W) (a:=⟨B,m,none⟩) (O B CT FV)).trans (ZM m q L);have OS:lt<wr.heap.size:=mw;have CN:B<wr.heap.size:=mw;have Z:Hid (((trC C).take (m+1)).foldl ya A=ya X (u,q)):=qd (by rw[dn,OG,List.foldl_append,q9 HX];rfl);have UL:=qd (vca D.row mw u);obtain⟨R,Q⟩:∃R,X.1.contains u=R:=⟨_,rfl⟩;rw[Q]at UL;have sB:(0:Int)<=(m:Int):=mw;have mB:(m:Int)<(l:Int):=mw;obtain⟨g5,M9,w5,R9,bZ,P6,Z0,EG,DV⟩:=(q9 D).row.app2 (by have:=(q9 D).bel.size;omega) u mw wr.heap.size rfl;have Y:=qd (D.snoc bZ P6 Z0 EG DV);have i5:w5.cell? ⟨z.heap.size,5,none⟩=some (.slice (some ⟨B,0,none⟩) l rc):=(aw (w:=W) (a:=⟨z.heap.size,5,none⟩) (Y.keep z.heap.size wB mw)).trans e5;have i1:w5.cell? ⟨B,m,none⟩=some (.int .i64 (q:Int)):=(aw (w:=W) (a:=⟨B,m,none⟩) (Y.keep B CT FV)).trans (ZM m q L);clear P L OG O bZ P6 Z0 EG DV
      cases R with
      | true=>
       have T:Hid (ya X (u,q)=X):=qd (by unfold ya;rw[bh Q]);clear R9 Y Q i5 i1
       go_wp2_with(go_at_call 180;refine UL.mono ?_;rintro e w8⟨rfl,QV⟩;subst w8)
       go_roundw
       case rel=>exact⟨m+1,hml,by go_num,by rw[q9 Z,q9 T],by rw[q9 Z,q9 T];exact D⟩
       case measure=>simp[intOf];omega
      | false=>
       have T:Hid (ya X (u,q)=(X.1++[u],X.2+q)):=qd (by unfold ya;rw[aj (by rw[Q];decide)]);clear Q
       go_wp2_with(go_at_call 180;refine UL.mono ?_;rintro e w8⟨rfl,QV⟩;subst w8)
       go_roundw
       case rel=>exact⟨m+1,hml,by go_num,by rw[q9 Z,q9 T];go_num,by rw[q9 Z,q9 T];exact Y⟩
       case measure=>simp[intOf];omega
     ·have CW:m=l:=mw
      have HF:Hid (gTs ss (k+1)=X):=qd (by rw[q9 S,←q9 HX,ez (by rw[q9 YZ];omega)]);have KV:¬(m:Int)<(l:Int):=mw;clear O
      go_wp2_with fail
      go_roundw
      case rel=>exact⟨k+1,W,K.heap.size,A0,by go_num,by rw[q9 HF],by rw[q9 HF];exact D⟩
      case measure=>simp[intOf];omega
  ·have U6:k=n:=mw
   have HF:Hid (gTs ss n=A):=qd (by rw[←U6];exact q9 HA);have U5:¬(k:Int)<(n:Int):=mw;have J0:=qd G.bel;clear G
   go_wp2_with fail
   refine nx ⟨?_,q9 J0⟩;rw[q9 HF]
end
section
theorem TxIn.take(h:TxIn w a ss)(k:Nat):TxIn w a (ss.take k):=λj s e=>h j s (by
 rw[List.getElem?_take]at e
 split at e
 ·exact e
 ·cases e)
theorem vae(ss:List mv)(h:k<=m):gTs (ss.take m) k=gTs ss k:=by
 unfold gTs;rw[List.take_take,me h]
theorem qrc(h:TxIn w a ss)(j:ss.length=n)(u:n<=8):
  nz 126 #[.slice a n cap] w λe w'=>e=.returned (.int .i64 ((gTs ss n).1.length:Nat))/\Xb w w':=by
 subst j;have q:=qd (qfh (cap:=cap) h u);obtain⟨x,l⟩:∃x,(gTs ss ss.length).1.length=x:=⟨_,rfl⟩;obtain⟨y,r⟩:∃y,(gTs ss ss.length).2=y:=⟨_,rfl⟩;obtain⟨n,j⟩:∃n,ss.length=n:=⟨_,rfl⟩;rw[l,r]at q;rw[l];rw[j]at q ⊢;clear h u l r j;go_enter func126,ntmps126
 go_wp2_with(go_at_call 127;refine q.mono ?_;rintro e A⟨rfl,z⟩)
 go_ret;exact⟨rfl,z⟩
def km(ss:List (List UInt8))(k:Nat):Option Int:=match ss[k]? with
 | none=>none
 | some s=>match vj (BS s) with
  | .err en _=>some en
  | .ok _=>if 80<(gTs ss (k+1)).1.length then some 8 else none
def pJ(ss:List (List UInt8)):Nat->Nat->Int×Nat
 | 0,_=>(0,0)
 | f+1,k=>match km ss k with
  | some e=>(e,k)
  | none=>pJ ss f (k+1)
def qcu(ss:List (List UInt8)):Int×Nat:=if 8<ss.length then(8,0) else pJ ss ss.length 0
theorem qcy(j:8<n):nz 81 #[.slice a n cap] w λe w'=>e=.returned (.tuple #[.int .i64 8,.int .i64 0])/\Xb w w':=by
 have hd:decide ((n:Int) > 8)=true:=de mw;go_enter func81,ntmps81
 go_wp2_with fail
 refine nx ?_;exact⟨rfl,nw⟩
theorem qfe(h:TxIn w a ss)(b9:ss.length<=cap)(h8:ss.length<=8):
  nz 81 #[.slice a ss.length cap] w λe w'=>e=.returned (.tuple #[.int .i64 (pJ ss ss.length 0).1,.int .i64 ((pJ ss ss.length 0).2:Nat)])/\Xb w w':=by
 have H:=qd h;obtain⟨n,I⟩:∃n,ss.length=n:=⟨_,rfl⟩;rw[I]at h8 b9 ⊢;have S:=qd I;obtain⟨R,K⟩:∃R,pJ ss n 0=R:=⟨_,rfl⟩;rw[K];have l:Hid (pJ ss (n - 0) 0=R):=qd K;have hd:decide ((n:Int) > 8)=false:=cw mw;clear h I K;go_enter func81,ntmps81
 go_wp2_with fail
 go_loopw [4] (λi wr=>∃k:Nat,k<=n/\i=.int .i64 k/\Hid (pJ ss (n - k) k=R)/\Hid (Xb w wr)) (λi _=>n - (intOf i).toNat)
 case atStart=>exact⟨0,bj _,rfl,l,qd nw⟩
 case round=>
  clear l;obtain⟨k,hk,rfl,l,r⟩:=hrel;have hz:=(q9 r).size
  by_cases A0:k<n
  ·obtain⟨s,u⟩:∃s,ss[k]?=some s:=⟨_,ag (by have:=q9 S;omega)⟩
   obtain⟨dA,D,C,rfl,EW,F⟩:=q9 H k s u;have d0:Xc wr D (C+k) (.string (BS s)):=(r.cell (p:=⟨D,C+k,none⟩) EW).trans F;have N5:(0:Int)<=(k:Int):=mw;have A5:(k:Int)<(n:Int):=mw;have RD:=qd (kA (BS s) dA wr)
   have B:Hid (pJ ss (n - k) k=match km ss k with|some e=>(e,k)|none=>pJ ss (n - (k+1)) (k+1)):=qd (by
    obtain⟨f,hf⟩:∃f,n - k=f+1:=⟨n - k - 1,mw⟩
    rw[hf,pJ,show n - (k+1)=f by omega])
   cases I3:vj (BS s) with
   | err en pl=>
    rw[I3]at RD;have Y:(en==0)=false:=by rcases vw I3 with h|h|h|h<;>rw[h]<;>rfl
    have wO:(en != 0)=true:=by rcases vw I3 with h|h|h|h<;>rw[h]<;>rfl
    have q:Hid (R=(en,k)):=qd (by rw[←q9 l,q9 B];unfold km;rw[u];simp only;rw[I3]);clear I3 u B F l
    go_wp2_with(go_at_call 123;refine RD.mono ?_;rintro e O⟨U,rfl⟩;have j:=qd (qf r U);clear U)
    refine nx ?_;exact⟨by rw[q9 q],q9 j⟩
   | ok t=>
    rw[I3]at RD
    have L:Hid (∀W:World,Xb wr W->nz 126 #[.slice (some ⟨D,C,none⟩) (k+1) cap] W λe w'=>e=.returned (.int .i64 ((gTs ss (k+1)).1.length:Nat))/\Xb W w'):=qd λW hW=>by
     have:=qrc (cap:=cap) ((H.take (k+1)).below (qf r hW)) (by rw[dh];have:=q9 S;omega) (show k+1<=8 by omega);rwa [vae ss nt]at this
    obtain⟨x,G⟩:∃x,(gTs ss (k+1)).1.length=x:=⟨_,rfl⟩;rw[G]at L;have T:Hid (km ss k=if 80<x then some 8 else none):=qd (by unfold km;rw[u];simp only;rw[I3];simp only;rw[G]);have Z:k+1<=cap:=mw;have Q:(k:Int)+1<=(cap:Int):=mw;have P:(k:Int)+1<=(n:Int):=mw;clear I3 u F G
    by_cases a7:80<x
    ·have q:Hid (R=(8,k)):=qd (by rw[←q9 l,q9 B,q9 T,bh a7])
     have J:decide ((x:Int) > 80)=true:=de mw
     go_wp2_with(first|(go_at_call 126;have _q:=j;refine(L _ j).mono ?_;rintro e X⟨rfl,z⟩;have M:=qd (qf r (qf j z));clear z)|(go_at_call 123;refine RD.mono ?_;rintro e O A;have j:=qd A.1;obtain⟨_,rfl,_⟩:=A))
     refine nx ?_;exact⟨by rw[q9 q],q9 M⟩
    ·have q:Hid (pJ ss (n - (k+1)) (k+1)=R):=qd (by rw[←q9 l,q9 B,q9 T,aj a7])
     have J:decide ((x:Int) > 80)=false:=cw mw
     go_wp2_with(first|(go_at_call 126;have _q:=j;refine(L _ j).mono ?_;rintro e X⟨rfl,z⟩;have M:=qd (qf r (qf j z));clear z)|(go_at_call 123;refine RD.mono ?_;rintro e O A;have j:=qd A.1;obtain⟨_,rfl,_⟩:=A))
     go_roundw
     case rel=>exact⟨k+1,A0,by go_num,q,M⟩
     case measure=>simp[intOf];omega
  ·have U5:¬(k:Int)<(n:Int):=mw
   have q:Hid (R=(0,0)):=qd (by rw[←q9 l,show n - k=0 by omega];rfl)
   go_wp2_with fail
   refine nx ?_;exact⟨by rw[q9 q];rfl,q9 r⟩
theorem pf(h:TxIn w a ss)(j:ss.length<=cap):
  nz 81 #[.slice a ss.length cap] w λe w'=>e=.returned (.tuple #[.int .i64 (qcu ss).1,.int .i64 ((qcu ss).2:Nat)])/\Xb w w':=by
 unfold qcu
 by_cases h8:8<ss.length
 ·rw[bh h8];exact qcy h8
 ·rw[aj h8];exact qfe h j mw
end
section
def coS(s:List UInt8):Co:=match vj (BS s) with
 | .ok t=>qi t
 | .err _ _=>.leaf ⟨3,0,[],[]⟩
theorem qmx{s:mv}(h:vj (BS s)=.ok t):coS s=qi t:=by unfold coS;rw[h]
theorem vh4(h:vj s=.ok t):OkC (qi t):=by
 obtain⟨_,_,e,j,_,_⟩:=ym h;exact vh2 t e (pO h) j
theorem vac:∀c,qaq c->∀d∈qa7 c,qpd (qnl d):=by
 intro c
 induction c with
 | leaf p=>intro h d hd;obtain rfl:=cp.1 hd;exact h
 | un p x ih=>
  intro h d hd;rcases cr.1 hd with hd|hd
  ·exact ih h.2 d hd
  ·obtain rfl:=cp.1 hd;exact h.1
 | bin p x y ihx ihy=>
  intro h d hd;rcases cr.1 hd with hd|hd
  ·rcases cr.1 hd with hd|hd
   ·exact ihx h.2.1 d hd
   ·exact ihy h.2.2 d hd
  ·obtain rfl:=cp.1 hd;exact h.1
theorem Gath.mem{D l:List Co}(h:Gath D l E):∀c∈E,c∈D\/c∈l:=by
 induction h with
 | nil D=>intro c e;exact .inl e
 | old _ _ ih=>intro c e;rcases ih c e with h|h;exact .inl h;exact .inr (dq _ h)
 | new _ _ ih=>
  intro c e;rcases ih c e with h|h
  ·rcases cr.1 h with h|h
   ·exact .inl h
   ·rw[cp.1 h];exact .inr dp
  ·exact .inr (dq _ h)
structure AdOk(ss:List (List UInt8))(k:Nat)(E:List Co):Prop where
 pr:PrT (jw (ss.map coS) k).1 E
 tx:gTs ss k=(E.map qp,pk E)
 fld:∀c∈E,qpd (qnl c)
theorem AdOk.zero(ss:List mv):AdOk ss 0 []:=⟨PrT.nil,rfl,mx⟩
theorem AdOk.step(h:AdOk ss k E){s:mv}(r:ss[k]?=some s)(e:vj (BS s)=.ok t):∃F,AdOk ss (k+1) F:=by
 have z:=vh4 e;obtain⟨F,u,A,_⟩:=PrT.place (qi t) z _ E h.pr;have j:(ss.map coS).getD k (.leaf ⟨3,0,[],[]⟩)=qi t:=by rw[aq,dd,r];exact qmx e
 refine⟨F, ?_, ?_,λc j=>?_⟩
 ·rw[jw,j];exact A
 ·rw[qed r,h.tx]
  unfold g1T;rw[e];show(trC (qi t)).foldl ya (E.map qp,pk E)=_;rw[←vg1 u h.pr.ok (vi5 _ z)]
  congr 1
  unfold trC;rw[(qds (qi t)).1,(qds (qi t)).2];generalize qa7 (qi t)=l
  induction l with
  | nil=>rfl
  | cons d l ih=>rw[fe,fe,fe,List.zip_cons_cons,ih]
 ·rcases u.mem c j with q|q
  ·exact h.fld c q
  ·exact vac _ (qjg e).fld c q
theorem AdOk.len(h:AdOk ss k E):(jw (ss.map coS) k).1.length=(gTs ss k).1.length:=by
 rw[h.pr.len,h.tx];simp
theorem qe9(e:qpd p)(a b:Nat):(encT (zg p a b)).length<=16+qa0 p:=by
 obtain⟨op,num,str,esc⟩:=p;obtain⟨⟨q,_⟩,_,l,j⟩:=e;simp only at q l j;unfold encT zg qa0;simp only
 split
 ·simp[j3];omega
 ·split
  ·rename_i h;rw[bh mw];simp[yI];omega
  ·split
   ·rename_i h;rw[bh mw];simp[yI];omega
   ·split
    ·simp only[eh,eo];omega
    ·split<;>(simp only[eh,eo];omega)
theorem qfr(e:qpd p){a:Nat}(j:a<=255)(h:b<=255):SmallT (zg p a b):=⟨j,h,by have:=e.2.2.1;show p.str.length<=255;omega,by have:=e.2.2.2;show p.esc.length<=255;omega⟩
theorem AdOk.at(h:AdOk ss k E)(D:(gTs ss k).1.length<=80){t:Tm}(F:(jw (ss.map coS) k).1[i]?=some t)(C:E[i]?=some c):SmallT t/\qb4 t/\(encT t).length<=16+qa0 (qnl c):=by
 obtain⟨u,q,z⟩:=h.pr.at' i c C;rw[F]at q;injection q with q;subst q;have B:=ch C;have l:=h.fld c B;have r:=vh3 (h.pr.ok c B);have H:E.length<=80:=by have:=h.tx;rw[this]at D;simpa using D
 have lt:∀{a:Nat} {x:Co},E[a]?=some x->a<=255:=λ{a x} h=>by have:=(au.1 h).1;omega
 cases c with
 | leaf p=>
  have e:t=zg p 0 0:=z;subst e;have j:=qfr (p:=p) l (a:=0) (b:=0) mw mw;refine⟨j,yU _ j ?_,qe9 l 0 0⟩;show p.op.toNat∈_;simp only at r;rcases(show p.op=0\/p.op=1\/p.op=2\/p.op=3\/p.op=4 by omega) with e|e|e|e|e<;>rw[e]<;>decide
 | un p x=>
  obtain⟨a,A,rfl⟩:=z;have j:=qfr (p:=p) l (a:=a) (b:=0) (lt A) mw;refine⟨j,yU _ j ?_,qe9 l a 0⟩;show p.op.toNat∈_;simp only at r;rcases r with e|e|e<;>rw[e]<;>decide
 | bin p x y=>
  obtain⟨a,b,A,G,rfl⟩:=z;have j:=qfr (p:=p) l (a:=a) (b:=b) (lt A) (lt G);refine⟨j,yU _ j ?_,qe9 l a b⟩;show p.op.toNat∈_;simp only[vW]at r;rcases(show p.op=6\/p.op=7\/p.op=8\/p.op=10\/p.op=11\/p.op=16\/p.op=17\/p.op=18\/p.op=19 by omega) with e|e|e|e|e|e|e|e|e<;>rw[e]<;>decide
theorem AdOk.small(h:AdOk ss k E)(q:(gTs ss k).1.length<=80){t:Tm}(j:t∈(jw (ss.map coS) k).1):SmallT t/\qb4 t:=by
 obtain⟨i,e⟩:=dy j;obtain⟨c,l⟩:∃c,E[i]?=some c:=⟨_,ag (by have:=(au.1 e).1;have:=h.pr.len;omega)⟩;have:=h.at q e l;exact⟨this.1,this.2.1⟩
theorem qzu(hd:mv)(ts:List Tm):∀k,(qd8 hd ts k).length=hd.length+((List.range k).map λi=>(encT (ts.getD i (.bare 3))).length).sum:=by
 intro k
 induction k with
 | zero=>simp[qd8]
 | succ k ih=>rw[qd8,bu,ih,List.range_succ,dt,List.sum_append];simp;omega
theorem qzv(hd:mv)(e:List Nat):∀k,(qjr hd e k).length=hd.length+k:=by
 intro k
 induction k with
 | zero=>rfl
 | succ k ih=>rw[qjr,bu,ih];simp;omega
theorem AdOk.bytes(h:AdOk ss k E)(u:(gTs ss k).1.length<=80):(jV (jw (ss.map coS) k).1 (jw (ss.map coS) k).2).length<=16+16 * (gTs ss k).1.length+4 * k+(gTs ss k).2:=by
 obtain⟨ts,j⟩:∃ts,(jw (ss.map coS) k).1=ts:=⟨_,rfl⟩;have z:∀(i:Nat) (t:Tm) (c:Co),ts[i]?=some t->E[i]?=some c->(encT t).length<=16+qa0 (qnl c):=λi t c e l=>(h.at u (by rw[j];exact e) l).2.2
 have r:ts.length=E.length:=by rw[←j];exact h.pr.len
 have key:∀m,m<=E.length->((List.range m).map λi=>(encT (ts.getD i (.bare 3))).length).sum<=16 * m+((E.take m).map λd=>qa0 (qnl d)).sum:=by
  intro m
  induction m with
  | zero=>intro _;simp
  | succ m ih=>
   intro A;have e:=ih mw;have l:=z m _ _ (ag mw) (ag mw);rw[List.range_succ,dt,List.sum_append,dn,ag mw];simp only[fe,List.map_nil,List.sum_cons,List.sum_nil,Option.toList_some,dt,List.sum_append];rw[aq,ag mw,Option.getD_some];omega
 have e:=key E.length nt;rw[fk]at e;have q:=(zp (ss.map coS) k).1;unfold jV;rw[qzv,qzu,q,j,h.tx,r];simp only[ep,eh,eo];unfold pk;omega
end
section
def qit(ss:List (List UInt8))(R:Int×Nat)(w:World)(e:Ending)(w':World):Prop:=Below w.heap.size w w'/\((R.1=0/\∃v,e=.returned (.tuple #[v,.int .i64 0,.int .i64 0])/\OB w' w.heap.size v (jV (jw (ss.map coS) ss.length).1 (jw (ss.map coS) ss.length).2))\/(R.1≠0/\e=.returned (.tuple #[.slice none 0 0,.int .i64 R.1,.int .i64 (R.2:Nat)])))
theorem qgj(ss:List mv)(e:8<n):nz 41 #[.slice a n cap] w (qit ss (8,0) w):=by
 have hd:decide ((n:Int) > 8)=true:=de mw;go_enter func41,ntmps41
 go_wp2_with fail
 refine nx ?_;exact⟨nw,.inr ⟨nh,rfl⟩⟩
theorem qjf(ss:List mv)(h8:ss.length<=8)(a:Option Addr)(cap:Nat)(w:World)(hL:LibOk w)(K:TxIn w a ss):nz 41 #[.slice a ss.length cap] w (qit ss (pJ ss ss.length 0) w):=by
 have HL:=qd hL;have HSS:=qd K;have NM:=qd (qhb w);obtain⟨n,H⟩:∃n,ss.length=n:=⟨_,rfl⟩;obtain⟨R,S⟩:∃R,pJ ss ss.length 0=R:=⟨_,rfl⟩;rw[S];rw[H]at h8 S ⊢;have HN:=qd H;have B:Hid (pJ ss (n - 0) 0=R):=qd S;clear hL K H S;have hd8:decide ((n:Int) > 8)=false:=cw mw;go_enter func41,ntmps41
 go_wp2_with(go_at_call 68;refine NM.mono ?_;rintro e w1⟨rfl,mB,A1⟩;have M1:=qd mB;have B1:=qd A1;clear mB A1)
 go_loopw [17] (λi wr=>∃(k:Nat) (tv rv:Value),k<=n/\i=.int .i64 k/\Hid (MkAt wr (w.heap.size+1) w.heap.size (jw (ss.map coS) k).1 (jw (ss.map coS) k).2 tv rv)/\Hid (Xb w wr)/\Hid (pJ ss (n - k) k=R)/\Hid ((gTs ss k).1.length<=80/\∃E,AdOk ss k E)) (λi _=>n - (intOf i).toNat)
 case atStart=>exact⟨0,_,_,bj _,rfl,M1,B1,B,qd ⟨bj _,[],AdOk.zero ss⟩⟩
 case round=>
  clear B;obtain⟨k,tv,rv,hk,rfl,MK,z,B,HE⟩:=hrel
  by_cases A0:k<n
  ·obtain⟨s,G⟩:∃s,ss[k]?=some s:=⟨_,ag (by have:=q9 HN;omega)⟩
   obtain⟨EU,sb,so,rfl,sblt,s0⟩:=q9 HSS k s G;have F8:=(q9 z).size;have d0:Xc wr sb (so+k) (.string (BS s)):=(z.cell (p:=⟨sb,so+k,none⟩) sblt).trans s0;have N5:(0:Int)<=(k:Int):=mw;have A5:(k:Int)<(n:Int):=mw;have RD:=qd (vc4 (BS s) wr (HL.below z nt).err (by rw[qG];exact EU))
   have Y:Hid (pJ ss (n - k) k=match km ss k with|some e=>(e,k)|none=>pJ ss (n - (k+1)) (k+1)):=qd (by
    obtain⟨f,hf⟩:∃f,n - k=f+1:=⟨n - k - 1,mw⟩;rw[hf,pJ,show n - (k+1)=f by omega]
    try(cases km ss k<;>rfl))
   cases I3:vj (BS s) with
   | err en pl=>
    rw[I3]at RD;have V5:=vw I3;have hne:(en==0)=false:=by rcases V5 with h|h|h|h<;>rw[h]<;>rfl
    have wO:(en != 0)=true:=by rcases V5 with h|h|h|h<;>rw[h]<;>rfl
    have q:Hid (R=(en,k)/\en≠0):=qd ⟨by rw[←q9 B,q9 Y];unfold km;rw[G];simp only;rw[I3],mw⟩;clear I3 G Y s0 B V5
    go_wp2_with(go_at_call 36;refine RD.mono ?_;rintro e Z⟨l,rfl⟩;have F9:=qd (qf z l);clear l)
    refine nx ?_;exact⟨q9 F9,.inr ⟨by rw[(q9 q).1];exact q.2,by rw[(q9 q).1]⟩⟩
   | ok t=>
    rw[I3]at RD;obtain⟨I,E,A⟩:=q9 HE;obtain⟨F,hF⟩:=A.step G I3;have X:=qjg I3;obtain⟨c,T⟩:∃c,qi t=c:=⟨_,rfl⟩;rw[T]at X;have hc:(ss.map coS).getD k (.leaf ⟨3,0,[],[]⟩)=c:=by rw[aq,dd,G,←T];exact qmx I3
    have CO:Hid (∀(lo:Nat) (U:World) (v:Value),Xb wr U->IsNode lo U v t->nz 40 #[v] U (kU wr.heap.size U c)):=qd λlo U v L H=>T ▸ qtg lo t (λ_=>vf9) (qqp I3) wr.heap.size U v L.size (HL.below (qf z L) nt) H
    have hS:Hid (jw (ss.map coS) (k+1)=((qA (jw (ss.map coS) k).1 c).1,(jw (ss.map coS) k).2++[(qA (jw (ss.map coS) k).1 c).2])):=qd (by rw[jw,hc]);have S9:(jw (ss.map coS) k).1.length<=80:=by rw[A.len];exact I
    have V3:=(zp (ss.map coS) k).1;have eK:=X.size
    have AD:Hid (∀(U:World) (v:Value),Xb wr U->CoAt wr.heap.size U.heap.size U v c->nz 69 #[.pointer (some ⟨w.heap.size+1,0,none⟩),v] U λe w'=>∃C D,e=.returned (.tuple #[])/\MkAt w' (w.heap.size+1) w.heap.size (jw (ss.map coS) (k+1)).1 (jw (ss.map coS) (k+1)).2 C D/\Xb w w'):=qd (by
     intro U v L hcU;have WJ:=(q9 MK).below L;refine(qyt c (vah X.fld) wr.heap.size _ _ U v _ _ tv rv WJ hcU (λj hj=>.inl (MK.own_lt hj)) mw mw).mono ?_;rintro e w'⟨C,D,rfl,h1,h2⟩;rw[q9 hS]
     exact⟨C,D,rfl,h1,qz2 (qf z L) WJ h2 nt⟩)
    have B8:=hF.len;have HA:Hid (km ss k=if 80<(jw (ss.map coS) (k+1)).1.length then some 8 else none):=qd (by unfold km;rw[G];simp only;rw[I3];simp only;rw[B8]);have rM:Hid ((gTs ss (k+1)).1.length=(jw (ss.map coS) (k+1)).1.length/\∃E,AdOk ss (k+1) E):=qd ⟨B8.symm,F,hF⟩;obtain⟨Q,hQ⟩:∃Q,jw (ss.map coS) (k+1)=Q:=⟨_,rfl⟩;rw[hQ]at AD HA rM;have HQ:=qd hQ;clear hS S9 V3 hQ G I3 T A hF I B8 hc X eK s0
    by_cases a7:80<Q.1.length
    ·have PN:decide ((Q.1.length:Int) > 80)=true:=de mw
     have q:Hid (R=(8,k)):=qd (by rw[←q9 B,q9 Y,q9 HA,bh a7])
     go_wp2_with(first|(go_at_call 36;refine RD.mono ?_;rintro e Z⟨l,v2,rfl,J⟩;obtain⟨vb,rfl⟩:=J.ptr;have N2:=qd J;have B2:=qd l;clear J l)|(go_at_call 40;refine(CO _ _ _ B2 N2).mono ?_;rintro e w3⟨b3,rfl,M,P⟩;have C3:=qd M;have B3:=qd (qf B2 P);clear M P)|(go_at_call 69;refine(AD _ _ B3 C3).mono ?_;rintro e w4⟨VG,rv4,rfl,u,O⟩;have M4:=qd u;have B4:=qd O;obtain⟨a4,c4,rfl⟩:=u.ats.form;have e4:=u.c0;clear u O)|(go_at_call 70;refine(qif _ 0 _ _ _ _ e4).mono ?_;rintro e w5⟨rfl,rfl⟩))
     refine nx ?_;exact⟨q9 B4,.inr ⟨by rw[q9 q];show(8:Int)≠0;decide,by rw[q9 q]⟩⟩
    ·have PN:decide ((Q.1.length:Int) > 80)=false:=cw mw
     have q:Hid (pJ ss (n - (k+1)) (k+1)=R):=qd (by rw[←q9 B,q9 Y,q9 HA,aj a7])
     go_wp2_with(first|(go_at_call 36;refine RD.mono ?_;rintro e Z⟨l,v2,rfl,J⟩;obtain⟨vb,rfl⟩:=J.ptr;have N2:=qd J;have B2:=qd l;clear J l)|(go_at_call 40;refine(CO _ _ _ B2 N2).mono ?_;rintro e w3⟨b3,rfl,M,P⟩;have C3:=qd M;have B3:=qd (qf B2 P);clear M P)|(go_at_call 69;refine(AD _ _ B3 C3).mono ?_;rintro e w4⟨VG,rv4,rfl,u,O⟩;have M4:=qd u;have B4:=qd O;obtain⟨a4,c4,rfl⟩:=u.ats.form;have e4:=u.c0;clear u O)|(go_at_call 70;refine(qif _ 0 _ _ _ _ e4).mono ?_;rintro e w5⟨rfl,rfl⟩))
     exact⟨⟨k+1,_,_,mw,rfl,by rw[q9 HQ];exact M4,B4,q,qd ⟨by rw[(q9 rM).1];omega,rM.2⟩⟩,by simp[intOf];omega⟩
  ·have:k=n:=mw
   subst this;have hP:=(q9 MK).prog;have mR:=zp (ss.map coS) k;obtain⟨I,E,A⟩:=q9 HE;have S9:(jw (ss.map coS) k).1.length<=80:=by rw[A.len];exact I
   have BY:=qd (qqs (w.heap.size+1) 0 _ _ wr hP mw mw (λt ht=>(A.small I ht).1) (λt ht=>(A.small I ht).2) (λr hr=>by have:=mR.2 r hr;omega) _ (λe w' h=>h));have q:Hid (R=(0,0)):=qd (by rw[←q9 B,show k - k=0 by omega];rfl);clear hP mR S9 A I
   go_wp2_with(go_at_call 71;refine BY.mono ?_;rintro e Z⟨v2,rfl,M6,l⟩;have O2:=qd M6;have B2:=qd l;obtain⟨a2,c2,rfl⟩:=M6.form;clear M6 l)
   refine nx ?_;refine⟨z.trans (B2.mono z.size),.inl ⟨by rw[q9 q],_,rfl, ?_⟩⟩;rw[q9 HN];have h:=q9 O2;refine⟨h.1, ?_⟩;rcases h.2 with H|⟨g,cap,cur,hv,I7,rest⟩
   ·exact .inl H
   ·exact .inr ⟨g,cap,cur,hv,bs z.size I7,rest⟩
theorem qje(ss:List mv)(a:Option Addr)(cap:Nat)(w:World)(j:LibOk w)(e:TxIn w a ss):nz 41 #[.slice a ss.length cap] w (qit ss (qcu ss) w):=by
 unfold qcu
 by_cases h8:8<ss.length
 ·rw[bh h8];exact qgj ss h8
 ·rw[aj h8];exact qjf ss mw a cap w j e
end
section
theorem vix(ss:List mv):∀f k,k+f<=ss.length->(pJ ss f k).1=0->(∃E,AdOk ss k E)->(gTs ss k).1.length<=80->(∃E,AdOk ss (k+f) E)/\(gTs ss (k+f)).1.length<=80:=by
 intro f
 induction f with
 | zero=>intro k _ _ u r;exact⟨u,r⟩
 | succ f ih=>
  intro k z e l A;obtain⟨s,q⟩:∃s,ss[k]?=some s:=⟨_,ag mw⟩;rw[pJ]at e
  have j:km ss k=match vj (BS s) with|.err en _=>some en|.ok _=>if 80<(gTs ss (k+1)).1.length then some 8 else none:=by
   unfold km;rw[q]
  cases hr:vj (BS s) with
  | err en pl=>
   rw[hr]at j;simp only at j;rw[j]at e;have:=vw hr;have e:en=0:=e;omega
  | ok t=>
   rw[hr]at j;simp only at j
   by_cases h8:80<(gTs ss (k+1)).1.length
   ·rw[j,bh h8]at e
    exact absurd e (by show(8:Int)≠0;decide)
   ·rw[j,aj h8]at e
    obtain⟨E,l⟩:=l;have:=ih (k+1) mw e (l.step q hr) mw;rwa [show k+1+f=k+(f+1) by omega]at this
theorem qjc(h:(qcu ss).1=0):ss.length<=8/\(∃E,AdOk ss ss.length E)/\(gTs ss ss.length).1.length<=80:=by
 unfold qcu at h
 by_cases h8:8<ss.length
 ·rw[bh h8]at h;exact absurd h (by show(8:Int)≠0;decide)
 ·rw[aj h8]at h
  have:=vix ss ss.length 0 mw h ⟨[],AdOk.zero ss⟩ (bj _);rw[ee]at this;exact⟨mw,this⟩
theorem vht:∀(E:List Co),(∀c∈E,qpd (qnl c))->pk E<=200 * E.length:=by
 intro E
 induction E with
 | nil=>intro _;simp[pk]
 | cons c E ih=>
  intro h;have e:=ih (λd hd=>h d (dq _ hd));have l:=(h c dp).2.2.1;have j:qa0 (qnl c)<=200:=by unfold qa0;split<;>omega
  unfold pk at e ⊢;rw[fe,List.sum_cons,eh];omega
theorem qj5(h:(qcu ss).1=0):(jV (jw (ss.map coS) ss.length).1 (jw (ss.map coS) ss.length).2).length<=16+16 * (gTs ss ss.length).1.length+4 * ss.length+(gTs ss ss.length).2/\(jV (jw (ss.map coS) ss.length).1 (jw (ss.map coS) ss.length).2).length<=100000:=by
 obtain⟨q,⟨E,e⟩,l⟩:=qjc h;have j:=e.bytes l;have z:=vht E e.fld;have u:(gTs ss ss.length).2=pk E:=by rw[e.tx]
 have r:(gTs ss ss.length).1.length=E.length:=by rw[e.tx];simp
 exact⟨j,mw⟩
theorem qgh(ss:List mv):∀f k,(pJ ss f k).1=0->pJ ss f k=(0,0):=by
 intro f
 induction f with
 | zero=>intro k _;rfl
 | succ f ih=>
  intro k j;rw[pJ]at j ⊢
  cases h:km ss k with
  | none=>rw[h]at j;exact ih (k+1) j
  | some e=>
   rw[h]at j;have j:e=0:=j;exfalso;unfold km at h
   cases hs:ss[k]? with
   | none=>rw[hs]at h;cases h
   | some s=>
    rw[hs]at h;simp only at h
    cases hr:vj (BS s) with
    | err en pl=>
     rw[hr]at h;injection h with h;have:=vw hr;omega
    | ok t=>
     rw[hr]at h;simp only at h
     split at h
     ·injection h with h;omega
     ·cases h
theorem qtf(h:(qcu ss).1=0):qcu ss=(0,0):=by
 unfold qcu at h ⊢
 by_cases h8:8<ss.length
 ·rw[bh h8]at h;exact absurd h (by show(8:Int)≠0;decide)
 ·rw[aj h8]at h ⊢;exact qgh ss _ _ h
theorem kz{A B n size:Nat}{e:TypeId}{xs:List Value}(h:W.ownsRow B e size v n xs)(l:A<=B):W.ownsRow A e size v n xs:=by
 refine⟨h.1, ?_⟩;rcases h.2 with j|⟨g,cap,cur,rfl,q,rest⟩
 ·exact .inl j
 ·exact .inr ⟨g,cap,cur,rfl,mw,rest⟩
theorem FmAt.lower{A B:Nat}{j nn bn:Nat}{nv bv:Value}{nxs bxs:List Value}(h:FmAt B W j m nv bv nn bn nxs bxs)(e:A<=B):FmAt A W j m nv bv nn bn nxs bxs:=
 ⟨bs e h.lo,h.ty,h.c0,h.c1,h.c2,h.fz,kz h.nr e,kz h.br e,h.nd,h.bd,h.nb⟩
theorem HsR.of{Y:World}{j:Value}{l:List (Nat×Nat)}(h:HsAt w W j l)(q:Xb W Y):HsR w (λk=>W.heap.size<=k) Y j l:=
 ⟨h.below q,λx r=>((h.each x r).1.keep (λ_ _ _=>rfl) (λb z u=>⟨z,Nat.not_le.2 u⟩)).below q,λk e=>Nat.not_le.2 (by
  rcases e with e|e
  ·exact(h.row.lt k e).2
  ·have:=h.lt;omega)⟩
end
end Go.Proofs.YtfkcaldjphakpaaGreatDoor
