/- The document's answer -/
import Derived.Test.YtfkcaldjphakpaaGreatDoorM20
import Derived.Test.YtfkcaldjphakpaaGreatDoorM26
import Derived.Test.YtfkcaldjphakpaaGreatDoorShelf3
import Derived.Sort.OwnSorted
set_option maxHeartbeats 8000000
set_option maxRecDepth 100000
namespace Go.Proofs.YtfkcaldjphakpaaGreatDoor
open Go.RowKit Go.Proofs.Tryz
variable{p:CP}{c d x:Co}{a b op:Int}{zs:List mv}{D E l:List Co}{ps:List Pr}{r s:List Tk}{t:Tm}{ev:Value}{w:World}
section
theorem qhu(a:Option Addr)(cap:Nat)(w:World):nz 85 #[.slice a 0 cap] w λe w'=>e=.returned (.bool true)/\Xb w w':=by
 go_enter func85,ntmps85
 go_wp2_with fail
 go_loopw [3] (λi wr=>i=.int .i64 0/\wr=w) (λ_ _=>0)
 case atStart=>exact⟨rfl,rfl⟩
 case round=>
  obtain⟨rfl,rfl⟩:=hrel
  go_wp2_with fail
  go_ret;exact⟨rfl,nw⟩
theorem qa2(h:EvIn w ev ps)(f:EvGood ps):nz 85 #[ev] w λe w'=>e=.returned (.bool (xK ps))/\Xb w w':=by
 rcases h with⟨rfl,a,cap,rfl⟩|⟨b,off,cap,rfl,j,g,i⟩
 ·exact qhu a cap w
 ·by_cases h8:ps.length<=8
  ·exact qw9 b off cap ps w h8 f.short g i
  ·rw[qgs h8]
   exact qkt _ _ _ mw w
theorem qm1{s:mu}{t:Ast}(B:vj s=.ok t){q g A cap:Nat}{j:List RN}{cs:List Int}(u:Flat t 0 j)(y:ShA t)(P:j.length<=200)(c0:Xc w q 0 (.slice (some ⟨g,0,none⟩) A cap))(I:NodesAt w q (.slice (some ⟨g,0,none⟩) A cap) (ze j cs))(M:q<w.heap.size)(N:EvArg w ev ps)(G:qdw ps)(F:vdq ps):
  nz 124 #[.pointer (some ⟨q,0,none⟩),ev] w λe w'=>e=.returned (vV (ofA ps t))/\Xb w w':=by
 have H:(ze j cs).length=j.length:=qcr _ _;have Q:=u.pos;have z:=qhs B
 have key:=qm2 c0 I M mw mw N G F (λi n k=>by
   rw[xX]at k
   cases hm:j[i]? with
   | none=>rw[hm]at k;cases k
   | some m=>
    rw[hm]at k;simp only[it]at k;injection k with k;obtain⟨o,a,b,c,d,e,f⟩:=qeu u y i m hm;rw[ee]at d;subst k
    exact⟨o,a,b,c,d,e,f⟩) (qnf (qv4 u y z.1 z.2 (pO B)))
 obtain⟨ds,K,O,J⟩:=vdi ps u y [] rfl
 have C:(gh ps [] (ze j cs)).getD ((ze j cs).length - 1) nV=ofA ps t:=by
  rw[vck,H,K,ej];exact J
 rw[C]at key;exact key
theorem qw8(s:mu)(u:s.size<=140737488355328)(i m:Int)(k:vj s=.err i m)(ev:Value)(w:World)(F:∃a n c,ev=.slice a n c):
  nz 77 #[.string s,ev] w λe w'=>e=.returned (.tuple #[vV nV,.int .i64 i,.int .i64 m])/\Xb w w':=by
 have RD:=qd (kA s u (w.alloc (.cells #[.int .i64 0,.int .i64 0,.string ⟨#[]⟩] 26)));rw[k]at RD;have B:=(Below.refl w.heap.size w).alloc nt (.cells #[.int .i64 0,.int .i64 0,.string ⟨#[]⟩] 26);obtain⟨a,n,c,rfl⟩:=F;have H:(i != 0)=true:=by rcases vw k with h|h|h|h<;>rw[h]<;>rfl
 have q:(i==0)=false:=by rcases vw k with h|h|h|h<;>rw[h]<;>rfl
 clear k;go_enter func77,ntmps77
 go_wp2_with(first|(go_at_call 123;refine RD.mono ?_;rintro e g⟨f,rfl⟩;have I:w.heap.size<g.heap.size:=(by have:=f.size;simp at this;omega);have A:Xc g w.heap.size 0 (.int .i64 0):=((qj f).1 _ 0 mx).trans mx;have z:Xc g w.heap.size 1 (.int .i64 0):=((qj f).1 _ 1 mx).trans mx;have y:Xc g w.heap.size 2 (.string ⟨#[]⟩):=((qj f).1 _ 2 mx).trans mx;have G:Xf g w.heap.size:=(λj=>((qj f).2 _ j mx).trans mx);have C:=qd (qf B f);clear f))
 refine ak (by simp[go_sem,A,z,y]<;>rfl) rfl ⟨rfl, ?_⟩;exact((C.setCell mx _).setCell mx _).setCell mx _
theorem qw7(s:mu)(K:s.size<=140737488355328)(t:Ast)(F:vj s=.ok t)(ps:List Pr)(ev:Value)(w:World)(q:EvIn w ev ps)(y:EvGood ps)(H:xK ps=false):
  nz 77 #[.string s,ev] w λe w'=>e=.returned (.tuple #[vV nV,.int .i64 7,.int .i64 0])/\Xb w w':=by
 have RD:=qd (kA s K (w.alloc (.cells #[.int .i64 0,.int .i64 0,.string ⟨#[]⟩] 26)));rw[F]at RD;have C:=(Below.refl w.heap.size w).alloc nt (.cells #[.int .i64 0,.int .i64 0,.string ⟨#[]⟩] 26);have EVA:=qd (q.below C);obtain⟨a,n,c,rfl⟩:=q.slice;have G:=qd (λg (h:EvIn g (.slice a n c) ps)=>qa2 h y);rw[H]at G;clear F y q H;go_enter func77,ntmps77
 go_wp2_with(first|(go_at_call 123;refine RD.mono ?_;rintro e g⟨f,rfl,_⟩;have m:w.heap.size<g.heap.size:=(by have:=f.size;simp at this;omega);have O:=qd (EVA.below f);have B:Xc g w.heap.size 0 (.int .i64 0):=((qj f).1 _ 0 mx).trans mx;have A:Xc g w.heap.size 1 (.int .i64 0):=((qj f).1 _ 1 mx).trans mx;have z:Xc g w.heap.size 2 (.string ⟨#[]⟩):=((qj f).1 _ 2 mx).trans mx;have u:Xf g w.heap.size:=(λj=>((qj f).2 _ j mx).trans mx);have N:=qd (qf C f);clear f)|(go_at_call 85;refine(G _ O).mono ?_;rintro e k⟨rfl,i⟩;have Q:w.heap.size<k.heap.size:=(by have:=i.size;omega);have J:Xc k w.heap.size 0 (.int .i64 0):=((qj i).1 _ 0 m).trans B;have k1:Xc k w.heap.size 1 (.int .i64 0):=((qj i).1 _ 1 m).trans A;have I:Xc k w.heap.size 2 (.string ⟨#[]⟩):=((qj i).1 _ 2 m).trans z;have P:Xf k w.heap.size:=(λj=>((qj i).2 _ j m).trans (u j));have M:=qd (qf N i);clear i B A z u))
 refine ak (by simp[go_sem,J,k1,I]<;>rfl) rfl ⟨rfl, ?_⟩;exact((M.setCell mx _).setCell mx _).setCell mx _
theorem vc9(s:mu)(hs:s.size<=140737488355328)(t:Ast)(K:vj s=.ok t)(ps:List Pr)(ev:Value)(w:World)(M:EvIn w ev ps)(G:EvGood ps)(B:xK ps=true):
  nz 77 #[.string s,ev] w λe w'=>e=.returned (.tuple #[vV (ofA ps t),.int .i64 0,.int .i64 0])/\Xb w w':=by
 have RD:=qd (kA s hs (w.alloc (.cells #[.int .i64 0,.int .i64 0,.string ⟨#[]⟩] 26)));rw[K]at RD;have U7:=(Below.refl w.heap.size w).alloc nt (.cells #[.int .i64 0,.int .i64 0,.string ⟨#[]⟩] 26);have EVA:=qd (M.below U7);obtain⟨a,n,c,rfl⟩:=M.slice;have HV:=qd (λk (h:EvIn k (.slice a n c) ps)=>qa2 h G);rw[B]at HV
 have I:Hid (∀(w:World) (u g A cap:Nat) (y:List RN) (cs:List Int),Flat t 0 y->ShA t->y.length<=200->Xc w u 0 (.slice (some ⟨g,0,none⟩) A cap)->NodesAt w u (.slice (some ⟨g,0,none⟩) A cap) (ze y cs)->u<w.heap.size->EvArg w (.slice a n c) ps ->
  nz 124 #[.pointer (some ⟨u,0,none⟩),.slice a n c] w λe w'=>e=.returned (vV (ofA ps t))/\Xb w w'):=qd λw u g A cap y cs h1 h2 h3 h4 h5 h6 h7=>qm1 K h1 h2 h3 h4 h5 h6 h7 G.rng (qtm B)
 have iB:=qd (vdw B);obtain⟨r,S⟩:∃r,ofA ps t=r:=⟨_,rfl⟩;rw[S]at I ⊢;simp only[vV]at I;clear K G M B S;go_enter func77,ntmps77
 go_wp2_with(first|(go_at_call 123;refine RD.mono ?_;rintro e k⟨i,rfl,J,y,cs,g,A,cap,E9,Z,Y,c0,H⟩;have X:(w.alloc (.cells #[.int .i64 0,.int .i64 0,.string ⟨#[]⟩] 26)).heap.size=w.heap.size+1:=mx;rw[X]at c0 H J;have F:w.heap.size<k.heap.size:=(by have:=i.size;simp at this;omega);have NC:=qd (EVA.below i);have W:Xc k w.heap.size 0 (.int .i64 0):=((qj i).1 _ 0 mx).trans mx;have U:Xc k w.heap.size 1 (.int .i64 0):=((qj i).1 _ 1 mx).trans mx;have T:Xc k w.heap.size 2 (.string ⟨#[]⟩):=((qj i).1 _ 2 mx).trans mx;have O:Xf k w.heap.size:=(λj=>((qj i).2 _ j mx).trans mx);have Q8:=qd (qf U7 i);have lQ:=qd c0;have HN:=qd H;have O4:=qd E9;have fV:=qd Z;have UQ:=qd Y;clear i c0 H E9 Z Y X)|(go_at_call 85;refine(HV _ NC).mono ?_;rintro e m⟨rfl,f⟩;have C:w.heap.size<m.heap.size:=(by have:=f.size;omega);have NL:w.heap.size+1<m.heap.size:=(by have:=f.size;omega);have NA:=qd (NC.below f);have Q:Xc m w.heap.size 0 (.int .i64 0):=((qj f).1 _ 0 F).trans W;have k1:Xc m w.heap.size 1 (.int .i64 0):=((qj f).1 _ 1 F).trans U;have P:Xc m w.heap.size 2 (.string ⟨#[]⟩):=((qj f).1 _ 2 F).trans T;have N:Xf m w.heap.size:=(λj=>((qj f).2 _ j F).trans (O j));have tF:=qd (((qj f).1 _ 0 J).trans lQ);have MO:=qd (HN.below J f);have aL:=qd (qf Q8 f);clear f W U T O)|(go_at_call 124;refine(I _ _ _ _ _ _ _ O4 fV UQ tF MO NL (NA.arg iB)).mono ?_;rintro e z⟨rfl,q⟩;have m0:Xc z w.heap.size 0 (.int .i64 0):=((qj q).1 _ 0 C).trans Q;have m1:Xc z w.heap.size 1 (.int .i64 0):=((qj q).1 _ 1 C).trans k1;have m2:Xc z w.heap.size 2 (.string ⟨#[]⟩):=((qj q).1 _ 2 C).trans P;have z3:Xf z w.heap.size:=(λj=>((qj q).2 _ j C).trans (N j));have lM:=qd (qf aL q);clear q Q k1 P N))
 refine ak (by simp[go_sem,m0,m1,m2]<;>rfl) rfl ⟨rfl, ?_⟩;exact((lM.setCell mx _).setCell mx _).setCell mx _
theorem qw6(s:mu)(f:s.size<=140737488355328)(ps:List Pr)(ev:Value)(w:World)(g:EvIn w ev ps)(h:EvGood ps):
  nz 77 #[.string s,ev] w λe w'=>e=.returned (.tuple #[vV (pS s ps).val,.int .i64 (pS s ps).errno,.int .i64 (pS s ps).place])/\Xb w w':=by
 unfold pS
 cases I3:vj s with
 | err en pl=>exact qw8 s f en pl I3 ev w g.slice
 | ok t=>
  cases E6:xK ps with
  | true=>exact vc9 s f t I3 ps ev w g h E6
  | false=>exact qw7 s f t I3 ps ev w g h E6
end
section
open Go.RowKit Go.Sort Go.Shelf Go.Proofs.Tryz
def vkd(ts:List (List UInt8)):List Value:=ts.map encStr
def qix(w:World)(base:Nat)(v:Value)(ts:List (List UInt8)):Prop:=w.ownsRow base 9 1 v ts.length (vkd ts)
theorem qs5(a:Option Addr)(n cap:Nat)(w:World):nz 167 #[.slice a n cap] w λe w'=>e=.returned (.func (.func 208) #[] #[.pointer (some ⟨w.heap.size,0,none⟩)])/\w'=w.alloc (.cells #[.slice a n cap] 62):=by
 have f:∀(fn:Fn) (first cap:Array Value) (w:World),(Instr.makeFunc fn first cap).run prog w=.ok (.func fn first cap) w:=λ_ _ _ _=>rfl
 go_enter func167,ntmps167
 go_wp2_with fail
 go_ret;exact⟨rfl,rfl⟩
theorem qjd(i b cap:Nat)(ts:List mv)(m:ts≠[])(G:ts.length<=1000)(w:World)(z:b<w.heap.size)(q:i<w.heap.size)
  (u:Xc w i 0 (.slice (some ⟨b,0,none⟩) ts.length cap)) (y:∀j,j<ts.length->Xc w b j (.string (BS (ts[j]?.getD [])))) :
  nz 206 #[.func (.func 208) #[] #[.pointer (some ⟨i,0,none⟩)]] w λe w'=>∃g c,e=.returned (.slice (some ⟨g,0,none⟩) ts.length c)/\qix w' w.heap.size (.slice (some ⟨g,0,none⟩) ts.length c) ts/\Xb w w':=by
 have A:Hid (nz 251 #[.slice none 0 0,.func (.func 208) #[] #[.pointer (some ⟨i,0,none⟩)]] w λe w'=>∃g c,e=.returned (.slice (some ⟨g,0,none⟩) ts.length c)/\qix w' w.heap.size (.slice (some ⟨g,0,none⟩) ts.length c) ts/\Xb w w'):=qd (((callsIn_wide (n:=5)).1 (qgc 5 mw i b cap ts G w z q u y)).mono (by
  rintro e w'⟨v,rfl,f,k⟩;rcases qwn f with⟨_,B⟩|⟨g,c,rfl⟩
  ·exact absurd (cq B) m
  ·exact⟨g,c,rfl,f,k⟩))
 clear u y;go_enter func206,ntmps206
 go_wp2_with(go_at_call 251;refine A.mono ?_;rintro e H⟨g,c,rfl,f,k⟩;have F:=qd f;have C:=qd k;clear f k)
 go_ret;exact⟨g,c,rfl,q9 F,q9 C⟩
def vjv(ts:List (List UInt8)):List (List UInt8):=ts.mergeSort λx y=>decide (x<=y)
theorem xE(ts:List mv):(vjv ts).length=ts.length:=List.length_mergeSort ts
theorem qrr(q b cap:Nat)(ts:List mv)(u:ts≠[])(K:ts.length<=1000)(w:World)(O:b<w.heap.size)(y:q<w.heap.size)
  (C:Xc w q 0 (.slice (some ⟨b,0,none⟩) ts.length cap)) (G:∀j,j<ts.length->Xc w b j (.string (BS (ts[j]?.getD [])))) :
  nz 166 #[.func (.func 208) #[] #[.pointer (some ⟨q,0,none⟩)]] w λe w'=>∃g c,e=.returned (.slice (some ⟨g,0,none⟩) ts.length c)/\qix w' w.heap.size (.slice (some ⟨g,0,none⟩) ts.length c) (vjv ts)/\Xb w w':=by
 have J:=qd (qjd q b cap ts u K w O y C G)
 have F:Hid (∀g c f,qix f w.heap.size (.slice (some ⟨g,0,none⟩) ts.length c) ts->Xb w f->nz 207 #[.slice (some ⟨g,0,none⟩) ts.length c] f λe w'=>e=.returned (.tuple #[])/\Hid (qix w' w.heap.size (.slice (some ⟨g,0,none⟩) ts.length c) (vjv ts)/\Xb w w')):=qd (by
  intro g c f m i;obtain⟨H,Q,M,cur,z,U,A⟩:=qbz m;rw[Nat.mul_one]at A;have P:Holds encStr f g 0 ts.toArray:=holds_of_block z A;refine(Tryz.slices_Sort_string g 0 c ts f P (cg.1 z).1 mw).mono ?_;rintro e w'⟨rfl,k,os,rfl⟩;refine⟨rfl,qd ⟨?_, ?_⟩⟩
  ·have:=ownsRow_sorted (n:=k) (os:=os) (xE ts) H z Q M U
   show World.ownsRow _ _ _ _ _ _ _;rw[xE];exact this
  ·exact i.grown (grownBy_sorted _) i.size (λj N=>by cases N;exact H))
 obtain⟨n,B⟩:∃n,ts.length=n:=⟨_,rfl⟩;rw[B]at J F ⊢;clear C G B K;go_enter func166,ntmps166
 go_wp2_with(first|(go_at_call 206;refine J.mono ?_;rintro e f⟨g,c,rfl,m,i⟩;have T:=qd m;have S:=qd i;clear m i)|(go_at_call 207;refine(F g c f T S).mono ?_;rintro e W⟨rfl,I⟩))
 go_ret;exact⟨g,c,rfl,I.1,I.2⟩
theorem qe3(g c:Nat)(zs:List mv)(base:Nat)(w:World)(h:qix w base (.slice (some ⟨g,0,none⟩) zs.length c) zs)(N:zs.length<=1000):
  nz 165 #[.slice (some ⟨g,0,none⟩) zs.length c] w λe w'=>e=.returned (.slice (some ⟨g,0,none⟩) (Lib.compact zs).length c)/\Hid ((∀j t,(Lib.compact zs)[j]?=some t->w'.cell? ⟨g,j,none⟩=some (.string (BS t)))/\base<=g/\g<w'.heap.size/\w.grownBy w' (some g)):=by
 obtain⟨B,A,F,cur,m,K,u⟩:=qbz h;rw[Nat.mul_one]at u;have G:Holds encStr w g 0 zs.toArray:=holds_of_block m u;refine(Tryz.slices_Compact_string g 0 c zs w G mw A).mono ?_;rintro e w'⟨rfl,q,rfl⟩;have M:(Lib.compact zs).length<=zs.length:=qbb zs;obtain⟨f,k⟩:∃f,Lib.compact zs++List.replicate (zs.length - (Lib.compact zs).length) []=f:=⟨_,rfl⟩;have J:f.length=zs.length:=by rw[←k];simp;omega
 have H:grow (putRow encStr (Sort.ahead w q) g 0 f.toArray) #[]=putRow encStr (Sort.ahead w q) g 0 f.toArray:=by simp[grow];rfl
 have y:=ownsRow_sorted (n:=q) (os:=#[]) J B m A F K;have i:=grownBy_sorted (w:=w) (g:=g) (n:=q) (os:=#[]) f.toArray;rw[H]at y i;rw[k];refine⟨rfl,qd ⟨λj t z=>?_,B, ?_,i⟩⟩
 ·have C:=(au.1 z).1
  have I:f[j]?=some t:=by rw[←k,bw C];exact z
  have:=World.ownsRow.cells y (g:=g) rfl j (encStr t) (by rw[dd,I];rfl);rwa [qyv,ee]at this
 ·have:=i.size
  have:=(cg.1 m).1;omega
end
section
def yY(x:Co):List (List UInt8)->Nat->Co
 | [],_=>x
 | t::r,k=>jM x (qk 8 x (qY t)) (r.take (k - 1))
theorem qqq(x:Co):∀(l:List mv) (f:Co) (t:mv),jM x f (l++[t])=qk 7 (jM x f l) (qk 8 x (qY t)):=by
 intro l
 induction l with
 | nil=>intro f t;rfl
 | cons a l ih=>intro f t;exact ih _ t
theorem qq8(x:Co){t:mv}(h:zs[0]?=some t):yY x zs 1=qk 8 x (qY t):=by
 cases zs with
 | nil=>simp at h
 | cons a r=>simp at h;subst h;simp[yY,jM]
theorem qk0(x:Co){k:Nat}{t:mv}(f:0<k)(h:zs[k]?=some t):yY x zs (k+1)=qk 7 (yY x zs k) (qk 8 x (qY t)):=by
 cases zs with
 | nil=>simp at h
 | cons a r=>
  obtain⟨j,rfl⟩:∃j,k=j+1:=⟨k - 1,mw⟩;have e:r[j]?=some t:=by simpa using h
  show jM x (qk 8 x (qY a)) (r.take (j+1+1 - 1))=qk 7 (jM x (qk 8 x (qY a)) (r.take (j+1 - 1))) _;rw[show j+1+1 - 1=j+1 by omega,show j+1 - 1=j by omega,dn,e];exact qqq x _ _ t
theorem qq6(x:Co)(ts:List mv):yY x (vf ts) (vf ts).length=vt x ts:=by
 unfold vt
 cases vf ts with
 | nil=>rfl
 | cons a r=>
  show jM x _ (r.take (r.length+1 - 1))=_;rw[show r.length+1 - 1=r.length by omega,fk]
theorem qq7(x:Co)(zs:List mv)(k:Nat)(h:∀t∈zs,t.length<=200)(f:zs.length<=200)(j:(qp x).length<=402):(qp (yY x zs k)).length<=1000000:=by
 cases zs with
 | nil=>show(qp x).length<=_;omega
 | cons a r=>
  have i:=qby x (r.take (k - 1)) (qk 8 x (qY a)) (λt e=>h t (dq _ (List.mem_of_mem_take e)));rw[qH 8 rfl rfl]at i;have q:=xd a (h a dp);have u:(jo 8).length=1:=rfl
  have g:(r.take (k - 1)).length<=200:=by
   have:=List.length_take_le (k - 1) r;simp at f;have n:(r.take (k - 1)).length<=r.length:=by rw[dh];omega
   omega
  have m:(r.take (k - 1)).length * ((qp x).length+420)<=200 * 822:=ln g mw;show(qp (jM x (qk 8 x (qY a)) (r.take (k - 1)))).length<=_;omega
def vf2(B:Nat)(W:World)(x:Co)(zs:List (List UInt8))(k:Nat)(v:Value):Prop:=(k=0/\v=.pointer none)\/(0<k/\∃b,v=.pointer (some ⟨b,0,none⟩)/\CoAt B W.heap.size W v (yY x zs k))
theorem vf9:qb2:=by
 intro lo B w x vx tv ts hB hL hx y A cS B8 hsx;obtain⟨bx,rfl⟩:=hx.ptr
 obtain⟨b,cap,rfl,_,hb,nQ⟩:∃g cap,tv=.slice (some ⟨g,0,none⟩) ts.length cap/\lo<g/\g<w.heap.size/\∀(j:Nat) (t:mv),ts[j]?=some t->Xc w g j (.string (BS t)):=by
  rcases y with⟨q,_⟩|h
  ·exact absurd q A
  ·exact h
 obtain⟨F,M⟩:∃F,F=w.alloc (.cells #[.slice (some ⟨b,0,none⟩) ts.length cap] 62):=⟨_,rfl⟩;have A1:Xb w F:=by rw[M];exact(nw).alloc nt _
 have B9:F.heap.size=w.heap.size+1:=by rw[M];simp
 have VA:=qd (qs5 (some ⟨b,0,none⟩) ts.length cap w);rw[←M]at VA
 have SO:=qd (qrr w.heap.size b cap ts A mw F mw mw (by rw[M];simp[go_sem]) (λj hj=>by
  have e:ts[j]?=some (ts[j]?.getD []):=by rw[ag hj];rfl
  exact(A1.cell (p:=⟨b,j,none⟩) hb).trans (nQ j _ e)))
 have CP:Hid (∀g c C,qix C F.heap.size (.slice (some ⟨g,0,none⟩) ts.length c) (vjv ts)->Xb F C->nz 165 #[.slice (some ⟨g,0,none⟩) ts.length c] C λe I=>e=.returned (.slice (some ⟨g,0,none⟩) (vf ts).length c)/\Hid ((∀j t,(vf ts)[j]?=some t->Xc I g j (.string (BS t)))/\g<I.heap.size/\Xb w I)):=qd (by
  intro g c C q f;have:=qe3 g c (vjv ts) F.heap.size C (by rw[xE];exact q) (by rw[xE];omega);rw[xE]at this;refine this.mono ?_;rintro e I⟨rfl,H⟩;obtain⟨Q,X,P,a4⟩:=q9 H;refine⟨rfl,qd ⟨Q,P, ?_⟩⟩;have A3:Xb w C:=qf A1 f
  exact A3.grown a4 A3.size (λj hj=>by
   have e:g=j:=by simpa using hj
   omega))
 have Z:Hid (∀t∈vf ts,t.length<=200):=qd λt y=>B8 t (kF y)
 have mY:(vf ts).length<=200:=bs (pw ts) cS;have wQ:(vf ts).length≠0:=λe=>qay A (cq e)
 have dP:Hid (yY x (vf ts) (vf ts).length=vt x ts):=qd (qq6 x ts);have HX:Hid (∀W,Xb w W->CoAt B W.heap.size W (.pointer (some ⟨bx,0,none⟩)) x):=qd λW hW=>hx.below hW
 have SX:Hid (∀W,Xb w W->LibOk W):=qd λW hW=>hL.below hW nt
 obtain⟨zs,KK⟩:∃zs,vf ts=zs:=⟨_,rfl⟩;rw[KK]at CP Z mY wQ dP;obtain⟨n,hn⟩:∃n,ts.length=n:=⟨_,rfl⟩;rw[hn]at VA SO CP ⊢;obtain⟨m,hm⟩:∃m,zs.length=m:=⟨_,rfl⟩;rw[hm]at CP mY wQ dP;have HM:=qd hm;clear KK hn hm M hL hx y A B8 nQ;go_enter func114,ntmps114
 go_wp2_with(first|(go_at_call 167;refine VA.mono ?_;rintro e w1'⟨rfl,rfl⟩)|(go_at_call 166;refine SO.mono ?_;rintro e C⟨g2,c2,rfl,q,f⟩;have H1:=qd q;have H2:=qd f;clear q f)|(go_at_call 165;refine(CP g2 c2 C H1 H2).mono ?_;rintro e I⟨rfl,H3⟩))
 go_loopw [5,14] (λv i wr=>∃k:Nat,k<=m/\i=.int .i64 k/\Hid (vf2 B wr x zs k v)/\Hid (Xb I wr)) (λ_ i _=>m - (intOf i).toNat)
 case atStart=>exact⟨0,bj _,rfl,qd (.inl ⟨rfl,rfl⟩),qd nw⟩
 case round=>
  obtain⟨k,hk,rfl,T,S⟩:=hrel
  by_cases A0:k<m
  ·obtain⟨t,y⟩:∃t,zs[k]?=some t:=⟨_,ag (by have:=q9 HM;omega)⟩
   have V2:t.length<=200:=q9 Z t (ch y);obtain⟨Q,X,P⟩:=q9 H3;have d0:Xc wr g2 k (.string (BS t)):=(S.cell (p:=⟨g2,k,none⟩) X).trans (Q k t y);have Y:Xb w wr:=qf P S;have EK:=Y.size;have N5:(0:Int)<=(k:Int):=mw;have A5:(k:Int)<(m:Int):=mw;have SP:Hid (nz 115 #[.agg #[.int .i64 2,.pointer none,.pointer none,.int .i64 0,.string (BS t),.string ⟨#[]⟩,.string ⟨#[]⟩]] wr λe w'=>∃b,e=.returned (.pointer (some ⟨b,0,none⟩))/\CoAt B w'.heap.size w' (.pointer (some ⟨b,0,none⟩)) (qY t)/\Xb wr w'):=qd (xb ⟨2,0,t,[]⟩ rfl veg (by show t.length<=_;omega) (bj _) mw (SX wr Y))
   have P8:Hid (∀u G,CoAt B u.heap.size u (.pointer (some ⟨G,0,none⟩)) (qY t)->Xb wr u->nz 111 #[.int .i64 8,.pointer (some ⟨bx,0,none⟩),.pointer (some ⟨G,0,none⟩)] u λe w'=>∃b,e=.returned (.pointer (some ⟨b,0,none⟩))/\CoAt B w'.heap.size w' (.pointer (some ⟨b,0,none⟩)) (qk 8 x (qY t))/\Xb wr w'):=qd (by
    intro u G q f;have J:=qf Y f;refine(j4 8 (by have:=J.size;omega) (SX u J) (HX u J) q mw (by have:=xd t V2;omega)).mono ?_;rintro e w'⟨b,rfl,q1,q2⟩
    exact⟨b,rfl,q1,qf f q2⟩)
   rcases q9 T with⟨rfl,rfl⟩|⟨V5,O,rfl,K⟩
   ·have H1C:Hid (yY x zs 1=qk 8 x (qY t)):=qd (qq8 x y)
    clear T Q X P y Z
    go_wp2_with(first|(go_at_call 115;refine SP.mono ?_;rintro e u⟨G,rfl,q,f⟩;have C4:=qd q;have B4:=qd f;clear q f)|(go_at_call 111;refine(P8 u G C4 B4).mono ?_;rintro e z⟨O,rfl,q,f⟩;have U:=qd q;have B5:=qd f;clear q f))
    exact⟨⟨1,mw,rfl,qd (.inr ⟨mw,O,rfl,by rw[q9 H1C];exact q9 U⟩),qd (qf S B5)⟩,by simp[intOf];omega⟩
   ·have YQ:Hid (yY x zs (k+1)=qk 7 (yY x zs k) (qk 8 x (qY t))):=qd (qk0 x V5 y)
    have P7:Hid (∀z N,CoAt B z.heap.size z (.pointer (some ⟨N,0,none⟩)) (qk 8 x (qY t))->Xb wr z->nz 111 #[.int .i64 7,.pointer (some ⟨O,0,none⟩),.pointer (some ⟨N,0,none⟩)] z λe w'=>∃b,e=.returned (.pointer (some ⟨b,0,none⟩))/\CoAt B w'.heap.size w' (.pointer (some ⟨b,0,none⟩)) (yY x zs (k+1))/\Xb wr w'):=qd (by
     intro z N q f;have J:=qf Y f
     have hl8:(qp (qk 8 x (qY t))).length<=1000000:=by
      rw[qH 8 rfl rfl];have:=xd t V2;have e8:(jo 8).length=1:=rfl;omega
     have hlf:=qq7 x zs k Z (by rw[q9 HM];exact mY) hsx;rw[q9 YQ];refine(j4 7 (by have:=J.size;omega) (SX z J) (K.below f) q mw mw).mono ?_;rintro e w'⟨b,rfl,q1,q2⟩
     exact⟨b,rfl,q1,qf f q2⟩)
    clear T Q X P y K YQ
    go_wp2_with(first|(go_at_call 115;refine SP.mono ?_;rintro e u⟨G,rfl,q,f⟩;have C4:=qd q;have B4:=qd f;clear q f)|(go_at_call 111;refine(P8 u G C4 B4).mono ?_;clear P8;rintro e z⟨N,rfl,q,f⟩;have U:=qd q;have B5:=qd f;clear q f)|(go_at_call 111;refine(P7 z N U B5).mono ?_;rintro e w6⟨b7,rfl,q,f⟩;have C6:=qd q;have B6:=qd f;clear q f))
    exact⟨⟨k+1,mw,rfl,qd (.inr ⟨mw,b7,rfl,q9 C6⟩),qd (qf S B6)⟩,by simp[intOf];omega⟩
  ·have OZ:k=m:=mw
   subst OZ;rcases q9 T with⟨h0,_⟩|⟨_,O,rfl,K⟩
   ·exact absurd h0 wQ
   ·have U:=qd K
    clear K T;have HBw:Hid (Xb w wr):=qd (qf H3.2.2 S)
    go_wp2_with fail
    go_ret;exact⟨O,rfl,by rw[←q9 dP];exact q9 U,q9 HBw⟩
end
section
section
variable {L:T3} {ts:TS} {t:Ast} {R:List Tk} {o:Nat}
end
theorem vid(h:OkC c)(R:List Tk):(hd (toks c++R)).kind≠7:=by
 cases c with
 | leaf p=>
  show(hd (pE p [] []++R)).kind≠7;rcases h with⟨h,_⟩|⟨h,_⟩|⟨h,_⟩|⟨h|h,_⟩<;>simp[pE,h,hd,qh]
 | un p x=>
  show(hd (pE p (toks x) []++R)).kind≠7;rcases h.2 with rfl|⟨_,rfl|f⟩
  ·simp[pE,qm,hd,qh]
  ·simp[pE,qm,hd,qh]
  ·simp[pE,f.1,hd,qh]
 | bin p x y=>
  show(hd (pE p (toks x) (toks y)++R)).kind≠7;obtain⟨op,g,rfl⟩:=h.2.2;have e:op≠0/\op≠1/\op≠2/\op≠3/\op≠4/\op≠5/\op≠22/\op≠23:=by unfold vW at g;omega
  simp[pE,qm,e,hd,qh]
end
section
theorem vji:∀{s:mv} {L:List Tk},Lx s L->∀{f:List Tk},Lx s f->L=f:=by
 intro s L h
 induction h with
 | nil h=>
  intro f g
  cases g with
  | nil _=>rfl
  | cons e hk t=>rw[h]at e;subst e;exact absurd rfl hk
 | cons e hk t ih=>
  intro f g
  cases g with
  | nil h=>rw[h]at e;subst e;exact absurd rfl hk
  | cons e' R7 t'=>subst e;subst e';rw[ih t']
def viu(k:Tk):CP:=if k.kind=2 then⟨0,0,k.str,[]⟩ else if k.kind=3 then⟨1,k.num,[],[]⟩ else if k.kind=4 then⟨2,0,k.str,[]⟩ else if k.kind=8 then qm 3 else qm 4
theorem qui(h:LfP p):∃k,toks (.leaf p)=[k]/\p=viu k/\k.kind≠26/\k.kind≠7:=by
 obtain⟨op,num,str,esc⟩:=p;rcases h with⟨a,b,c,_⟩|⟨a,_,_,b,c⟩|⟨a,b,c⟩|⟨a,b,c,d⟩
 ·simp only at a b c;subst a b c;exact⟨⟨2,0,str⟩,rfl,rfl,by show(2:Int)≠26;decide,by show(2:Int)≠7;decide⟩
 ·simp only at a b c;subst a b c;exact⟨⟨3,num,[]⟩,rfl,rfl,by show(3:Int)≠26;decide,by show(3:Int)≠7;decide⟩
 ·simp only at a b c;subst a b c;exact⟨⟨4,0,str⟩,rfl,rfl,by show(4:Int)≠26;decide,by show(4:Int)≠7;decide⟩
 ·simp only at a b c d;subst b c d
  rcases a with a|a<;>subst a
  ·exact⟨qh 8,rfl,rfl,nh,nh⟩
  ·exact⟨qh 9,rfl,rfl,nh,nh⟩
inductive CV:Co->List Tk->Prop
 | leaf (k:Tk):k.kind≠26->k.kind≠7->CV (.leaf (viu k)) [k]
 | no (x:Co):OkC x->CV (.un (qm 5) x) (qh 26::qh 7::(toks x++[qh 27]))
 | null (x:Co):OkC x->CV (.un (qm 23) x) (qh 26::(toks x++qh 14::[qh 15,qh 27]))
 | like (s e:List UInt8) (x:Co):OkC x->CV (.un ⟨22,0,s,e⟩ x) (qh 26::(toks x++qh 12::⟨4,0,s⟩::(va2 e++[qh 27])))
 | bin (op:Int) (x y:Co):vW op->OkC x->OkC y->CV (.bin (qm op) x y) (qh 26::(toks x++qh (sgK op)::(toks y++[qh 27])))
theorem qz3(e:vW op)(x y:Co):toks (.bin (qm op) x y)=qh 26::(toks x++qh (sgK op)::(toks y++[qh 27])):=by
 show pE (qm op) (toks x) (toks y)=_;unfold vW at e;unfold pE qm;simp only;rw[aj my,aj my,aj my,aj my,aj my,aj my,aj my,aj my]
theorem vig(h:OkC c):CV c (toks c):=by
 cases c with
 | leaf p=>
  obtain⟨k,q,n,m,j⟩:=qui h;rw[q,n];exact .leaf k m j
 | un p x=>
  obtain⟨e,rfl|⟨_,rfl|i⟩⟩:=h
  ·exact .no x e
  ·exact .null x e
  ·obtain⟨op,num,str,esc⟩:=p
   obtain⟨a,b,_⟩:=i;simp only at a b;subst a b;exact .like str esc x e
 | bin p x y=>
  obtain⟨e,g,op,f,rfl⟩:=h;rw[qz3 f];exact .bin op x y f e g
theorem qxz(h:OkC c):∃k t,toks c=k::t/\k.kind≠7:=by
 have g:=vid h [];have f:=vig h;generalize toks c=l at f g
 cases f with
 | leaf k a b=>exact⟨k,[],rfl,b⟩
 | no x _=>exact⟨_,_,rfl,nh⟩
 | null x _=>exact⟨_,_,rfl,nh⟩
 | like s e x _=>exact⟨_,_,rfl,nh⟩
 | bin op x y _ _ _=>exact⟨_,_,rfl,nh⟩
theorem no7(h:OkC x){t:List Tk}(e:qh 7::t=toks x++r):False:=by
 obtain⟨k,u,g,f⟩:=qxz h;rw[g,cm]at e;injection e with e _;exact f (e ▸ rfl)
theorem qfq:sgK op≠14/\sgK op≠12:=by
 unfold sgK
 repeat' split
 all_goals decide
theorem vhu(f:vW a)(e:vW b)(h:sgK a=sgK b):a=b:=by
 have key:∀o,vW o->o=6\/o=7\/o=8\/o=10\/o=11\/o=16\/o=17\/o=18\/o=19:=λo h=>by unfold vW at h;omega
 rcases key a f with rfl|rfl|rfl|rfl|rfl|rfl|rfl|rfl|rfl<;>rcases key b e with rfl|rfl|rfl|rfl|rfl|rfl|rfl|rfl|rfl<;>first|rfl|exact absurd h nh
theorem vfv{e f:mv}(h:va2 e++[qh 27]++r=va2 f++[qh 27]++s):e=f/\r=s:=by
 unfold va2 at h
 cases e with
 | nil=>
  cases f with
  | nil=>exact⟨rfl,by simpa using h⟩
  | cons a b=>simp[qh]at h
 | cons a b=>
  cases f with
  | nil=>simp[qh]at h
  | cons c d=>simp at h;exact⟨by rw[h.1.1,h.1.2],h.2⟩
theorem kt(h:qh a::r=qh b::s):a=b/\r=s:=by
 injection h with e f;injection e with e;exact⟨e,f⟩
theorem vdc:∀c,OkC c->∀d,OkC d->∀r s:List Tk,toks c++r=toks d++s->c=d/\r=s:=by
 intro c
 induction c with
 | leaf p=>
  intro g d hd r s h;have v:=vig g;have w:=vig hd;generalize toks (.leaf p)=l at v h;generalize toks d=m at w h
  cases v with
  | leaf k a b=>
   cases w with
   | leaf k' a' b'=>simp at h;exact⟨by rw[h.1],h.2⟩
   | _=>simp at h;exact absurd (by rw[h.1];rfl) a
 | un p x ih=>
  intro g d hd r s h;have v:=vig g;have w:=vig hd;have f:=g.1;generalize toks (.un p x)=l at v h;generalize toks d=m at w h
  cases v with
  | no x _=>
   cases w with
   | leaf k' a' b'=>simp at h;exact absurd (by rw[←h.1];rfl) a'
   | no x' G6=>
    simp only[cm,bi]at h;obtain⟨rfl,e⟩:=ih f x' G6 _ _ (by injection h with _ h;injection h);exact⟨rfl,by simpa using e⟩
   | null x' G6=>simp only[cm,bi]at h;injection h with _ h;exact(no7 G6 h).elim
   | like s' e' x' G6=>simp only[cm,bi]at h;injection h with _ h;exact(no7 G6 h).elim
   | bin op x' y' _ G6 _=>simp only[cm,bi]at h;injection h with _ h;exact(no7 G6 h).elim
  | null x _=>
   cases w with
   | leaf k' a' b'=>simp at h;exact absurd (by rw[←h.1];rfl) a'
   | no x' G6=>simp only[cm,bi]at h;injection h with _ h;exact(no7 f h.symm).elim
   | null x' G6=>
    simp only[cm,bi]at h;obtain⟨rfl,e⟩:=ih f x' G6 _ _ (by injection h);exact⟨rfl,by simpa using e⟩
   | like s' e' x' G6=>
    simp only[cm,bi]at h;obtain⟨rfl,e⟩:=ih f x' G6 _ _ (by injection h);exact absurd (kt e).1 nh
   | bin op x' y' _ G6 _=>
    simp only[cm,bi]at h;obtain⟨rfl,e⟩:=ih f x' G6 _ _ (by injection h);exact absurd (kt e).1.symm qfq.1
  | like s0 e0 x _=>
   cases w with
   | leaf k' a' b'=>simp at h;exact absurd (by rw[←h.1];rfl) a'
   | no x' G6=>simp only[cm,bi]at h;injection h with _ h;exact(no7 f h.symm).elim
   | null x' G6=>
    simp only[cm,bi]at h;obtain⟨rfl,e⟩:=ih f x' G6 _ _ (by injection h);exact absurd (kt e).1 nh
   | like s' e' x' G6=>
    simp only[cm,bi]at h;obtain⟨rfl,e⟩:=ih f x' G6 _ _ (by injection h);obtain⟨_,n⟩:=kt e;injection n with i j;injection i with _ _ i;subst i;obtain⟨rfl,u⟩:=vfv (by simpa using j);exact⟨rfl,u⟩
   | bin op x' y' _ G6 _=>
    simp only[cm,bi]at h;obtain⟨rfl,e⟩:=ih f x' G6 _ _ (by injection h);exact absurd (kt e).1.symm qfq.2
 | bin p x y ihx ihy=>
  intro g d hd r s h;have v:=vig g;have w:=vig hd;have f:=g.1;have q:=g.2.1;generalize toks (.bin p x y)=l at v h;generalize toks d=m at w h
  cases v with
  | bin op x y ho _ _=>
   cases w with
   | leaf k' a' b'=>simp at h;exact absurd (by rw[←h.1];rfl) a'
   | no x' G6=>simp only[cm,bi]at h;injection h with _ h;exact(no7 f h.symm).elim
   | null x' G6=>
    simp only[cm,bi]at h;obtain⟨rfl,e⟩:=ihx f x' G6 _ _ (by injection h);exact absurd (kt e).1 qfq.1
   | like s' e' x' G6=>
    simp only[cm,bi]at h;obtain⟨rfl,e⟩:=ihx f x' G6 _ _ (by injection h);exact absurd (kt e).1 qfq.2
   | bin op' x' y' iR G6 cC=>
    simp only[cm,bi]at h;obtain⟨rfl,e⟩:=ihx f x' G6 _ _ (by injection h);obtain⟨n,i⟩:=kt e;obtain rfl:=vhu ho iR n;obtain⟨rfl,j⟩:=ihy q y' cC _ _ i;exact⟨rfl,by simpa using j⟩
theorem qxf(e:OkC c)(hd:OkC d)(h:qp c=qp d):c=d:=by
 have f:=(qup c e).1;have g:=(qup d hd).1;rw[h]at f;exact(vdc c e d hd [] [] (by rw[vji f g])).1
end
section
def qa7:Co->List Co
 | .leaf p=>[.leaf p]
 | .un p x=>qa7 x++[.un p x]
 | .bin p x y=>qa7 x++qa7 y++[.bin p x y]
def qnl:Co->CP
 | .leaf p=>p
 | .un p _=>p
 | .bin p _ _=>p
theorem qds:∀c,qB c=(qa7 c).map qp/\jJ c=(qa7 c).map λd=>qa0 (qnl d):=by
 intro c
 induction c with
 | leaf p=>exact⟨rfl,rfl⟩
 | un p x ih=>exact⟨by simp[qB,qa7,ih.1],by simp[jJ,qa7,ih.2,qnl]⟩
 | bin p x y ihx ihy=>exact⟨by simp[qB,qa7,ihx.1,ihy.1],by simp[jJ,qa7,ihx.2,ihy.2,qnl]⟩
theorem vi5:∀c,OkC c->∀d∈qa7 c,OkC d:=by
 intro c
 induction c with
 | leaf p=>intro h d hd;obtain rfl:=cp.1 hd;exact h
 | un p x ih=>
  intro h d hd;rcases cr.1 hd with hd|hd
  ·exact ih h.1 d hd
  ·obtain rfl:=cp.1 hd;exact h
 | bin p x y ihx ihy=>
  intro h d hd;rcases cr.1 hd with hd|hd
  ·rcases cr.1 hd with hd|hd
   ·exact ihx h.1 d hd
   ·exact ihy h.2.1 d hd
  ·obtain rfl:=cp.1 hd;exact h
inductive Gath:List Co->List Co->List Co->Prop
 | nil (D:List Co):Gath D [] D
 | old {D l E:List Co} {c:Co}:c∈D->Gath D l E->Gath D (c::l) E
 | new {D l E:List Co} {c:Co}:c∉D->Gath (D++[c]) l E->Gath D (c::l) E
theorem Gath.app(h:Gath D l E){m F:List Co}(e:Gath E m F):Gath D (l++m) F:=by
 induction h with
 | nil D=>exact e
 | old hc _ ih=>exact .old hc (ih e)
 | new hc _ ih=>exact .new hc (ih e)
theorem Gath.pre(h:Gath D l E):∃N,E=D++N:=by
 induction h with
 | nil D=>exact⟨[],mx⟩
 | old _ _ ih=>exact ih
 | @new _ _ _ c _ _ ih=>obtain⟨N,e⟩:=ih;exact⟨c::N,by rw[e];simp⟩
def TmC(D:List Co):Co->Tm->Prop
 | .leaf p,t=>t=zg p 0 0
 | .un p x,t=>∃a,D[a]?=some x/\t=zg p a 0
 | .bin p x y,t=>∃a b,D[a]?=some x/\D[b]?=some y/\t=zg p a b
theorem TmC.more{N:List Co}(h:TmC D c t):TmC (D++N) c t:=by
 have key:∀{a:Nat} {x:Co},D[a]?=some x->(D++N)[a]?=some x:=λ{a x} h=>by rw[bw (au.1 h).1];exact h
 cases c with
 | leaf p=>exact h
 | un p x=>obtain⟨a,f,e⟩:=h;exact⟨a,key f,e⟩
 | bin p x y=>obtain⟨a,b,f,e,g⟩:=h;exact⟨a,b,key f,key e,g⟩
theorem vh3(h:OkC c):match c with
  | .leaf p=>0<=p.op/\p.op<=4
  | .un p _=>p.op=5\/p.op=22\/p.op=23
  | .bin p _ _=>vW p.op:=by
 cases c with
 | leaf p=>
  show 0<=p.op/\p.op<=4;rcases h with⟨a,_⟩|⟨a,_⟩|⟨a,_⟩|⟨a,_⟩<;>omega
 | un p x=>
  show p.op=5\/p.op=22\/p.op=23;obtain⟨_,rfl|⟨_,rfl|f⟩⟩:=h
  ·exact .inl rfl
  ·exact .inr (.inr rfl)
  ·exact .inr (.inl f.1)
 | bin p x y=>obtain⟨_,_,op,e,rfl⟩:=h;exact e
theorem pC{q:CP}{a b g f:Nat}(A:0<=p.op)(z:0<=q.op)(h:zg p a b=zg q g f):p=q/\a=g/\b=f:=by
 obtain⟨o,n,s,e⟩:=p;obtain⟨i,C,B,G⟩:=q;unfold zg at h;simp only at h A z;injection h with F y u m k j;have:o=i:=mw;subst this m k j;exact⟨rfl,y,u⟩
theorem TmC.inj(z:OkC c)(hd:OkC d)(h:TmC D c t)(g:TmC D d t):c=d:=by
 have i:=vh3 z;have f:=vh3 hd
 cases c with
 | leaf p=>
  simp only at i
  cases d with
  | leaf q=>rw[show t=zg p 0 0 from h]at g;rw[(pC i.1 f.1 (show zg p 0 0=zg q 0 0 from g)).1]
  | un q x=>
   simp only at f;obtain⟨a,_,e⟩:=g;rw[show t=zg p 0 0 from h]at e;obtain⟨rfl,_⟩:=pC i.1 mw e;omega
  | bin q x y=>
   simp only[vW]at f;obtain⟨a,b,_,_,e⟩:=g;rw[show t=zg p 0 0 from h]at e;obtain⟨rfl,_⟩:=pC i.1 mw e;omega
 | un p x=>
  simp only at i;obtain⟨a,k,rfl⟩:=h
  cases d with
  | leaf q=>
   simp only at f;obtain⟨rfl,_⟩:=pC mw f.1 (show zg p a 0=zg q 0 0 from g);omega
  | un q x'=>
   simp only at f;obtain⟨m,j,e⟩:=g;obtain⟨rfl,rfl,_⟩:=pC mw mw e;rw[k]at j;injection j with e;rw[e]
  | bin q x' y'=>
   simp only[vW]at f;obtain⟨m,C,_,_,e⟩:=g;obtain⟨rfl,_⟩:=pC mw mw e;omega
 | bin p x y=>
  simp only[vW]at i;obtain⟨a,b,k,u,rfl⟩:=h
  cases d with
  | leaf q=>
   simp only at f;obtain⟨rfl,_⟩:=pC mw f.1 (show zg p a b=zg q 0 0 from g);omega
  | un q x'=>
   simp only at f;obtain⟨m,_,e⟩:=g;obtain⟨rfl,_⟩:=pC mw mw e;omega
  | bin q x' y'=>
   simp only[vW]at f;obtain⟨m,C,j,n,e⟩:=g;obtain⟨rfl,rfl,rfl⟩:=pC mw mw e;rw[k]at j;rw[u]at n;injection j with B;injection n with A;rw[B,A]
theorem vgw(f:D.Nodup){a b:Nat}(e:D[a]?=some x)(g:D[b]?=some x):a=b:=by
 exact(List.getElem?_inj (au.1 e).1 f).1 (e.trans g.symm)
theorem TmC.one(e:D.Nodup){u:Tm}(h:TmC D c t)(i:TmC D c u):t=u:=by
 cases c with
 | leaf p=>exact(show t=_ from h).trans (show u=_ from i).symm
 | un p x=>
  obtain⟨a,g,rfl⟩:=h;obtain⟨b,f,rfl⟩:=i;rw[vgw e g f]
 | bin p x y=>
  obtain⟨a,b,g,f,rfl⟩:=h;obtain⟨n,m,k,j,rfl⟩:=i;rw[vgw e g k,vgw e f j]
structure PrT(ts:List Tm)(D:List Co):Prop where
 len:ts.length=D.length
 ok:∀c∈D,OkC c
 nd:D.Nodup
 at':∀(i:Nat) (c:Co),D[i]?=some c->∃t,ts[i]?=some t/\TmC D c t
theorem PrT.nil:PrT [] []:=⟨rfl,mx,mx,λi c h=>by simp at h⟩
theorem PrT.put{ts:List Tm}(h:PrT ts D)(y:OkC c)(m:TmC D c t):∃E,Gath D [c] E/\PrT (gZ ts t).1 E/\E[(gZ ts t).2]?=some c:=by
 unfold gZ
 cases hw:jn ts t with
 | some i=>
  unfold jn at hw;obtain⟨G,q,_⟩:=ml.1 hw;have q:ts[i]=t:=(kD _ _).1 q;obtain⟨d,hd⟩:∃d,D[i]?=some d:=⟨_,ag (by have:=h.len;omega)⟩;obtain⟨u,f,g⟩:=h.at' i d hd;have k:u=t:=by rw[ag G,q]at f;injection f with f;exact f.symm
  subst k;have n:c=d:=TmC.inj y (h.ok d (ch hd)) m g;subst n;exact⟨D,.old (ch hd) (.nil _),h,hd⟩
 | none=>
  have H:∀u∈ts,¬u=t:=by
   unfold jn at hw;have:=List.findIdx?_eq_none_iff.1 hw;intro u f e;have:=this u f;rw[(kD u t).2 e]at this;cases this
  have z:c∉D:=by
   intro A;obtain⟨j,B⟩:=dy A;obtain⟨u,f,g⟩:=h.at' j c B;exact H u (ch f) (TmC.one h.nd g m)
  refine⟨D++[c],.new z (.nil _),⟨by simp[h.len], ?_, ?_, ?_⟩, ?_⟩
  ·intro d hd
   rcases cr.1 hd with hd|hd
   ·exact h.ok d hd
   ·obtain rfl:=cp.1 hd;exact y
  ·rw[List.nodup_append]
   refine⟨h.nd,mx,λa F b C=>?_⟩;obtain rfl:=cp.1 C;exact λe=>z (e ▸ F)
  ·intro i d hd
   by_cases hi:i<D.length
   ·rw[bw hi]at hd
    obtain⟨u,f,g⟩:=h.at' i d hd;exact⟨u,by rw[bw (by have:=h.len;omega)];exact f,g.more⟩
   ·rw[cj mw]at hd
    have e:i=D.length:=by
     have:=(au.1 hd).1;simp at this;omega
    subst e;obtain rfl:c=d:=by simpa using hd
    exact⟨t,by rw[←h.len];simp,m.more⟩
  ·show(D++[c])[ts.length]?=some c
   rw[h.len];simp
theorem PrT.place:∀(c:Co),OkC c->∀(ts:List Tm) (D:List Co),PrT ts D->∃E,Gath D (qa7 c) E/\PrT (qA ts c).1 E/\E[(qA ts c).2]?=some c:=by
 intro c
 induction c with
 | leaf p=>intro e ts D h;exact h.put e rfl
 | un p x ih=>
  intro e ts D h;obtain⟨E,k,j,g⟩:=ih e.1 ts D h;obtain⟨F,f,i,m⟩:=j.put (c:=.un p x) (t:=zg p (qA ts x).2 0) e ⟨_,g,rfl⟩;exact⟨F,k.app f,i,m⟩
 | bin p x y ihx ihy=>
  intro e ts D h;obtain⟨E,k,j,g⟩:=ihx e.1 ts D h;obtain⟨F,f,i,m⟩:=ihy e.2.1 _ E j;obtain⟨N,q⟩:=f.pre;have n:F[(qA ts x).2]?=some x:=by rw[q,bw (au.1 g).1];exact g
  obtain⟨G,z,u,A⟩:=i.put (c:=.bin p x y) (t:=zg p (qA ts x).2 (qA (qA ts x).1 y).2) e ⟨_,_,n,m,rfl⟩;exact⟨G,(k.app f).app z,u,A⟩
def ya(a:List (List UInt8)×Nat)(e:List UInt8×Nat):List (List UInt8)×Nat:=if a.1.contains e.1 then a else(a.1++[e.1],a.2+e.2)
def pk(D:List Co):Nat:=(D.map λd=>qa0 (qnl d)).sum
theorem vg1(h:Gath D l E)(i:∀c∈D,OkC c)(f:∀c∈l,OkC c):(l.map λd=>(qp d,qa0 (qnl d))).foldl ya (D.map qp,pk D)=(E.map qp,pk E):=by
 induction h with
 | nil D=>rfl
 | @old D l E c hc _ ih=>
  rw[fe,mg]
  have g:((D.map qp).contains (qp c))=true:=by
   rw[mt];exact List.mem_map_of_mem hc
  rw[show ya (D.map qp,pk D) (qp c,qa0 (qnl c))=(D.map qp,pk D) by unfold ya;rw[bh g]];exact ih i (λd hd=>f d (dq _ hd))
 | @new D l E c hc _ ih=>
  rw[fe,mg]
  have g:¬((D.map qp).contains (qp c))=true:=by
   rw[mt];intro h;obtain⟨d,hd,e⟩:=fw.1 h;exact hc (qxf (i d hd) (f c dp) e ▸ hd)
  rw[show ya (D.map qp,pk D) (qp c,qa0 (qnl c))=((D++[c]).map qp,pk (D++[c])) by unfold ya pk;rw[aj g];simp];refine ih (λd hd=>?_) (λd hd=>f d (dq _ hd));rcases cr.1 hd with hd|hd
  ·exact i d hd
  ·obtain rfl:=cp.1 hd;exact f d dp
end
end Go.Proofs.YtfkcaldjphakpaaGreatDoor
