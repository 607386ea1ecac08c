/- The cores of what is r -/
import Derived.Test.YtfkcaldjphakpaaGreatDoorM26
import Derived.Lib.SliceRun
namespace Go.Proofs.YtfkcaldjphakpaaGreatDoor
open Go.RowKit Go.Proofs.Tryz
variable{x:Co}{m n op:Int}{rs:List Nat}{ts:List Tm}{mb mp:Nat}{t:Tm}{rv tv:Value}{W w:World}
section
def qpd(p:CP):Prop:=(0<=p.op/\p.op<=23)/\Rng p.num/\p.str.length<=200/\p.esc.length<=1
def qaq:Co->Prop
 | .leaf p=>qpd p
 | .un p x=>qpd p/\qaq x
 | .bin p x y=>qpd p/\qaq x/\qaq y
theorem xD(h:0<=op/\op<=23):qpd (qm op):=⟨h,veg,bj _,bj _⟩
theorem vK(c:0<=op/\op<=23){y:Co}(b:qaq x)(a:qaq y):qaq (qk op x y):=by
 unfold qk
 split
 ·exact⟨xD c,a,b⟩
 ·exact⟨xD c,b,a⟩
theorem qtu:∀{c:Co},qaq c->qaq (qW c):=by
 intro c
 induction c with
 | leaf p=>
  intro h;unfold qW
  split
  ·exact xD nh
  ·split
   ·exact xD nh
   ·exact⟨xD nh,h⟩
 | un p x ih=>
  intro h;unfold qW
  split
  ·exact h.2
  ·exact⟨xD nh,h⟩
 | bin p x y ihx ihy=>
  intro h;unfold qW
  split
  ·exact vK nh (ihx h.2.1) (ihy h.2.2)
  ·split
   ·exact vK nh (ihx h.2.1) (ihy h.2.2)
   ·split
    ·exact vK nh h.2.2 h.2.1
    ·split
     ·exact vK nh h.2.2 h.2.1
     ·exact⟨xD nh,h⟩
theorem qn7{t:mv}(h:t.length<=200):qaq (qY t):=⟨(by show(0:Int)<=2/\(2:Int)<=23;decide),veg,h,bj _⟩
theorem qtv(h:Rng n):qaq (kd n):=⟨(by show(0:Int)<=1/\(1:Int)<=23;decide),h,bj _,bj _⟩
theorem qtw(b:qaq x):∀(r:List mv) (f:Co),qaq f->(∀t∈r,t.length<=200)->qaq (jM x f r):=by
 intro r
 induction r with
 | nil=>intro f a _;exact a
 | cons t r ih=>
  intro f a h;exact ih _ (vK nh a (vK nh b (qn7 (h t dp)))) λu c=>h u (dq _ c)
theorem qtt(a:qaq x){ts:List mv}(h:∀t∈ts,t.length<=200):qaq (vt x ts):=by
 have c:∀u∈vf ts,u.length<=200:=λu b=>h u (kF b)
 unfold vt
 cases hs:vf ts with
 | nil=>exact a
 | cons t r=>
  rw[hs]at c;exact qtw a r _ (vK nh a (qn7 (c t dp))) λu b=>c u (dq _ b)
theorem vab:∀t,ShA t->qg9 t->qg6 t->BqA t->qaq (qi t):=by
 intro t
 induction t with
 | leaf p=>intro b f e c;exact⟨⟨b.1,by have:=b.2;show p.op<=23;omega⟩,f,e.1,c.1⟩
 | un p x ih=>
  intro b f e c;have a:=ih b.2.2.2 f.2 e.2 c.2;rw[qi]
  split
  ·exact vK nh (qtv veg) a
  ·split
   ·exact vK nh (qtv veg) a
   ·split
    ·exact qtu a
    ·split
     ·exact qtt a c.1.2
     ·exact⟨⟨by have:=b.1;show 0<=p.op/\p.op<=23;omega,f.1,e.1.1,c.1.1⟩,a⟩
 | bin p x y ihx ihy=>
  intro b f e c;have a:=ihx b.2.1 f.2.1 e.2.1 c.2.1;have g:=ihy b.2.2 f.2.2 e.2.2 c.2.2;rw[qi]
  split
  ·exact vK nh g a
  ·split
   ·exact vK nh g a
   ·split
    ·exact qtu (vK nh a g)
    ·exact vK (by have:=b.1;omega) a g
 | tri p x y z ihx ihy ihz=>
  intro b f e c;have a:=ihx b.2.1 f.2.1 e.2.1 c.2.1;have g:=ihy b.2.2.1 f.2.2.1 e.2.2.1 c.2.2.1;have i:=ihz b.2.2.2 f.2.2.2 e.2.2.2 c.2.2.2;exact vK nh (vK nh g a) (vK nh a i)
theorem vah:∀{c:Co},qaq c->qiv c:=by
 have a:∀{p:CP},qpd p->GoodP p:=λh=>⟨h.1,h.2.1,by have:=h.2.2.1;omega,by have:=h.2.2.2;omega⟩
 intro c
 induction c with
 | leaf p=>exact λh=>a h
 | un p x ih=>exact λh=>⟨a h.1,ih h.2⟩
 | bin p x y ihx ihy=>exact λh=>⟨a h.1,ihx h.2.1,ihy h.2.2⟩
theorem qrq:∀{c:Co},WfC c->kE c<=2 * (qp c).length+1:=by
 intro c
 induction c with
 | leaf p=>intro _;show 1<=_;omega
 | un p x ih=>
  intro h;have b:=ih h.2
  have e:(qp x).length+1<=(qp (.un p x)).length:=by
   show _<=(qE p (qp x) []).length;have a:=h.1;unfold unB at a;simp only[dk,dg]at a;unfold qE;rcases a with(a|a)|a<;>rw[a]<;>simp<;>omega
  show kE x+1<=_;omega
 | bin p x y ihx ihy=>
  intro h;have b:=ihx h.2.1;have f:=ihy h.2.2;have e:=jv h.1 x y;show kE x+kE y+1<=_;omega
structure CoreOk(c:Co):Prop where
 fld:qaq c
 wf:WfC c
 size:kE c<=250000000
theorem qjg{s:mu}{t:Ast}(h:vj s=.ok t):CoreOk (qi t):=by
 obtain⟨a,b,g,f,e,c⟩:=ym h;refine⟨vab t g f e c,a.gd.wf, ?_⟩;have k:=qrq a.gd.wf;have j:=a.gd.len;have i:ndA t * ndA t<=200 * 200:=ln b b;omega
def qpc(ts:List Tm):Prop:=∀i t,ts[i]?=some t->FitsT i t
theorem qec(h:qpc ts)(b:FitsT ts.length t):qpc (gZ ts t).1:=by
 unfold gZ
 cases hw:jn ts t with
 | some i=>exact h
 | none=>
  intro i x a
  by_cases hl:i<ts.length
  ·rw[bw hl]at a
   exact h i x a
  ·have e:i=ts.length:=by
    have:=(au.1 a).1;simp at this;omega
   subst e;simp at a;subst a;exact b
theorem qjz{p:CP}(h:qpd p){n l r:Nat}(a:5<=p.op->l<n/\r<n):FitsT n (zg p l r):=by
 obtain⟨⟨i,g⟩,f,e,c⟩:=h;refine⟨by show p.op.toNat<=23;omega,f,e,c,λb=>a ?_⟩;have j:5<=p.op.toNat:=b;omega
theorem qq4:∀(c:Co) (ts:List Tm),qaq c->WfC c->qpc ts->qpc (qA ts c).1:=by
 intro c
 induction c with
 | leaf p=>
  intro ts a b h;refine qec h (qjz a λl=>?_);have f:vY p.op=true:=b;unfold vY at f;simp only[dk,dg]at f;omega
 | un p x ih=>
  intro ts a b h;have e:=ih ts a.2 b.2 h;have j:=(yq ts x).2.2;exact qec e (qjz a.1 λ_=>⟨j,mw⟩)
 | bin p x y ihx ihy=>
  intro ts a b h;have e:=ihx ts a.2.1 b.2.1 h;have i:=ihy (qA ts x).1 a.2.2 b.2.2 e;have k:=yq ts x;have g:=yq (qA ts x).1 y;exact qec i (qjz a.1 λ_=>⟨mw,g.2.2⟩)
end
section
attribute [local go_sem ↓] jt
theorem qf5:∀c,qiv c->qb3 (some c):=by
 intro c
 induction c with
 | leaf p=>
  intro f B E mb mp W v ts rs tv rv j g l i r;obtain⟨b,rfl,k⟩:∃b,v=at0 b/\CellsC B E W b p vb6 vb6 (qp (.leaf p)):=g;exact pZ p none none gr gr f B E mb mp b W vb6 vb6 _ ts rs tv rv j k rfl rfl l i (by have:qa4 (some (Co.leaf p))=1:=rfl;simp only[qa4]at *;omega) _ λe w' h=>h
 | un p x ih=>
  intro f B E mb mp W v ts rs tv rv j g l i r;obtain⟨b,a,rfl,k,q⟩:∃b a,v=at0 b/\CellsC B E W b p a vb6 (qp (.un p x))/\CoAt B E W a x:=g;exact pZ p (some x) none (ih f.2) gr f.1 B E mb mp b W a vb6 _ ts rs tv rv j k q rfl l i (by have:qa4 (some (Co.un p x))=kE x+1:=rfl;simp only[qa4]at *;omega) _ λe w' h=>h
 | bin p x y ihx ihy=>
  intro f B E mb mp W v ts rs tv rv j g l i r;obtain⟨b,a,o,rfl,k,q,s⟩:∃b a o,v=at0 b/\CellsC B E W b p a o (qp (.bin p x y))/\CoAt B E W a x/\CoAt B E W o y:=g;exact pZ p (some x) (some y) (ihx f.2.1) (ihy f.2.2) f.1 B E mb mp b W a o _ ts rs tv rv j k q s l i (by have:qa4 (some (Co.bin p x y))=kE x+kE y+1:=rfl;simp only[qa4]at *;omega) _ λe w' h=>h
theorem MkAt.appRoot(h:MkAt W mb mp ts rs tv rv)(r:Nat)(D:rs.length<=1000)(ty:TypeId):
  ∃g cap b,(ki #[52,52] ty #[rv,.slice (some ⟨W.heap.size,0,none⟩) 1 1]).run prog (W.alloc (.cells #[.int .i64 r] 3))=.ok (.slice (some ⟨g,0,none⟩) (rs.length+1) cap) b /\
   Xc b mb 1 rv/\(Xf b mb)/\mb<b.heap.size /\
   Hid (MkAt (b.setCell ⟨mb,1,none⟩ (.slice (some ⟨g,0,none⟩) (rs.length+1) cap)) mb mp ts (rs++[r]) tv (.slice (some ⟨g,0,none⟩) (rs.length+1) cap)) /\
   Hid (MkKept mb mp tv rv tv (.slice (some ⟨g,0,none⟩) (rs.length+1) cap) W (b.setCell ⟨mb,1,none⟩ (.slice (some ⟨g,0,none⟩) (rs.length+1) cap))):=by
 obtain⟨k,o,u,A,y⟩:=info_parts kq;have C:=h.lt;obtain⟨g,cap,b,l,B,c,z,_⟩:=run_append_lies (P:=prog) (W.alloc (.cells #[.int .i64 r] 3)) 52 ty (mb+1) 3 k _ 1 8 underlying52 o u A y rfl mw rv rs.length (jX rs) (World.ownsRow.alloc h.ars _)
  ⟨W.heap.size,0,none⟩ 1 1 [.int .i64 r] rfl (World.news_of_block (cs:=#[.int .i64 r]) (t:=3) (fr:=(0,0)) (heap_alloc_new W _)) (by simp[Value.oneCell']) mw (by unfold maxLen;omega) mw my _ rfl
 obtain⟨s,q⟩:=h.root B c z rfl;have f:b.heap[mb]?=W.heap[mb]?:=(c.block mb my (λe=>by have:=(h.ars.lt mb e.symm).1;omega)).trans (iq W _ mb C);have i:=c.size;refine⟨g,cap,b,l, ?_,λj=>?_, ?_,qd s,qd q⟩
 ·exact(aw (w:=W) (w':=b) (a:=⟨mb,1,none⟩) f).trans h.c1
 ·exact(cf (w:=W) (w':=b) (a:=⟨mb,j,none⟩) f).trans (h.fz j)
 ·simp at i
  omega
set_option maxHeartbeats 4000000 in
theorem vaw(c:Co)(C:qiv c)(B E mb mp:Nat)(W:World)(v:Value)(ts:List Tm)(rs:List Nat)(tv rv:Value)(f:MkAt W mb mp ts rs tv rv)(j:CoAt B E W v c)(D:E<=W.heap.size)(k:Out B E mb mp tv rv)(A:ts.length+kE c<=2500000000)(z:rs.length<=1000)
  (Q:Ending->World->Prop) (o:∀w' tv' rv',MkAt w' mb mp (qA ts c).1 (rs++[(qA ts c).2]) tv' rv'->MkKept mb mp tv rv tv' rv' W w'->Q (.returned (.tuple #[])) w') :
  nz 69 #[.pointer (some ⟨mb,0,none⟩),v] W Q:=by
 have q:=qd o;have h:Hid _:=qd (qf5 c C B E mb mp W.drew v ts rs tv rv f.drew (CoAt.keep (w:=W) (w':=W.drew) nt (λ_ _ _=>rfl) nt j) D k A);have c1:=f.c1;have S:=f.lt;obtain⟨b,p,l,r,rfl,_⟩:=j.head;unfold qsf at h
 change Hid (Calls _ _ #[_,.pointer (some ⟨b,0,none⟩)] _ λe W'=>∃tv',e=.returned (.int .i64 ((qA ts c).2:Int))/\MkAt W' mb mp (qA ts c).1 rs tv' rv/\MkKept mb mp tv rv tv' rv W.drew W') at h
 change Calls _ _ #[_,.pointer (some ⟨b,0,none⟩)] _ _
 generalize qA ts c=R at *;obtain⟨u,i⟩:=R;simp only at h q;clear o f j k;go_enter func69,ntmps69
 go_region_with(go_at_call 116;refine h.mono ?_;rintro e I⟨O,rfl,a,s⟩;have c4:=a.c1;have L:=a.fz;have N:=a.lt;obtain⟨g,cap,H,P,M,K,J,y,G⟩:=a.appRoot i z 52;have F:=qd s.drew';clear a s)
 all_goals go_wp2_with fail
 all_goals exact bodyPost_end (results_none rfl _ _ _) rfl (q _ _ _ y (F.trans G))
end
section
def jw(cs:List Co):Nat->List Tm×List Nat
 | 0=>([],[])
 | k+1=>((qA (jw cs k).1 (cs.getD k (.leaf ⟨3,0,[],[]⟩))).1,(jw cs k).2++[(qA (jw cs k).1 (cs.getD k (.leaf ⟨3,0,[],[]⟩))).2])
theorem zp(cs:List Co)(k:Nat):(jw cs k).2.length=k/\∀r∈(jw cs k).2,r<(jw cs k).1.length:=by
 induction k with
 | zero=>exact⟨rfl,λr a=>by simp[jw]at a⟩
 | succ k ih=>
  have b:=yq (jw cs k).1 (cs.getD k (.leaf ⟨3,0,[],[]⟩));refine⟨by rw[jw,bu,ih.1];rfl,λr a=>?_⟩;rw[jw,cr]at a;rw[jw];rcases a with a|a
  ·have:=ih.2 r a
   show r<(qA (jw cs k).1 (cs.getD k (.leaf ⟨3,0,[],[]⟩))).1.length;omega
  ·simp at a
   subst a;exact b.2.2
theorem MkAt.prog(h:MkAt W mb mp ts rs tv rv):ProgAt W mb 0 ts rs:=⟨h.lt,⟨tv,_,h.c0,h.ats⟩,rv,_,h.c1,h.ars⟩
theorem qz2{W':World}{e f:Value}(a:Xb w W)(g:MkAt W mb mp ts rs tv rv)(c:MkKept mb mp tv rv e f W W')(i:w.heap.size<=mp):Xb w W':=by
 have j:=g.lo;refine⟨c.os.trans a.os,c.tape.trans a.tape,c.output.trans a.output,bs a.size c.size,λk h=>(c.block k (by have:=a.size;omega) (λb=>?_)).trans (a.block k h)⟩;rcases b with rfl|rfl|b|b
 ·omega
 ·omega
 ·have:=(g.ats.lt k b).1;omega
 ·have:=(g.ars.lt k b).1;omega
theorem qyt(c:Co)(k:qiv c)(B mb mp:Nat)(W:World)(v:Value)(ts:List Tm)(rs:List Nat)(tv rv:Value)(j:MkAt W mb mp ts rs tv rv)(f:CoAt B W.heap.size W v c)(h:Out B W.heap.size mb mp tv rv)(i:ts.length+kE c<=2500000000)(g:rs.length<=1000):
  nz 69 #[.pointer (some ⟨mb,0,none⟩),v] W λe w'=>∃a b,e=.returned (.tuple #[])/\MkAt w' mb mp (qA ts c).1 (rs++[(qA ts c).2]) a b/\MkKept mb mp tv rv a b W w':=
 vaw c k B W.heap.size mb mp W v ts rs tv rv j f nt h i g _ λ_ a b o l=>⟨a,b,rfl,o,l⟩
end
section
attribute [local go_sem ↓] jt
def qzj(ats:Array TypeId)(ty:TypeId)(args:Array Value):Sem Value:=Builtin.clear_ ats ty args
theorem qpp(ats:Array TypeId)(ty:TypeId)(args:Array Value):Builtin.clear_ ats ty args=qzj ats ty args:=rfl
attribute [local go_sem ↓] qpp
end
section
def ve5(l:List UInt8):Nat->Nat
 | 0=>0
 | k+1=>ve5 l k+(l.getD k 0).toNat * 2 ^ (8 * k)
theorem vgv(l:mv)(k:Nat):ve5 l k<2 ^ (8 * k):=by
 induction k with
 | zero=>exact Nat.zero_lt_one
 | succ k ih=>
  have c:(l.getD k 0).toNat<256:=UInt8.toNat_lt _;have a:2 ^ (8 * (k+1))=256 * 2 ^ (8 * k):=by rw[Nat.mul_add,Nat.pow_add,Nat.mul_comm]
  have b:(l.getD k 0).toNat * 2 ^ (8 * k)<=255 * 2 ^ (8 * k):=iw _ mw;rw[ve5,a];omega
theorem vh9(A B:Nat)(b:A<18446744073709551616)(a:B<18446744073709551616):bits .or .i64 (wrap64 (A:Int)) (wrap64 (B:Int))=wrap64 ((A ||| B:Nat):Int):=by
 have e:∀n:Nat,n<18446744073709551616->(BitVec.ofInt 64 (wrap64 (n:Int))).toNat=n:=λn c=>by
  rw[BitVec.toNat_ofInt];unfold wrap64;have:((2 ^ 64:Nat):Int)=18446744073709551616:=nh;rw[this];omega
 show IntKind.i64.wrap ((BitVec.ofInt 64 (wrap64 (A:Int)) ||| BitVec.ofInt 64 (wrap64 (B:Int))).toNat:Int)=_;rw[BitVec.toNat_or,e A b,e B a,IntKind.wrap_i64];unfold wrap64;rfl
theorem vbb(l:mv)(k:Nat)(c:k<=8):qvb l k=wrap64 (ve5 l k:Int):=by
 induction k with
 | zero=>simp[qvb,ve5,wrap64]
 | succ k ih=>
  have b:=vgv l k;have g:(l.getD k 0).toNat<256:=UInt8.toNat_lt _;have a:2 ^ (8 * k)<=2 ^ 56:=Nat.pow_le_pow_right nh mw;have f:(l.getD k 0).toNat * 2 ^ (8 * k)<=255 * 2 ^ 56:=ln mw a;have e:(((l.getD k 0).toNat:Int) * 2 ^ (8 * k))=(((l.getD k 0).toNat * 2 ^ (8 * k):Nat):Int):=by push_cast;rfl
  rw[qvb,vjp,ih mw,e,vh9 _ _ mw mw,ve5]
  congr 2
  rw[Nat.or_comm,←Nat.shiftLeft_eq,←Nat.shiftLeft_add_eq_or_of_lt b,Nat.add_comm]
theorem qql(n:Int){j k:Nat}(h:j<k):(zW n k).getD j 0=qv0 n j:=by
 induction k with
 | zero=>omega
 | succ k ih=>
  rw[zW,aq];rcases Nat.lt_or_ge j k with a|a
  ·rw[bw (by rw[j3];exact a),←aq,ih a]
  ·have:j=k:=mw
   subst this;rw[cj (by rw[j3];omega),j3,iu];rfl
theorem qzt(n b:Int)(a:0<b):n % (b * 256)=n % b+n / b % 256 * b:=by
 have f:=Int.emod_add_mul_ediv n b;have c:=Int.emod_add_mul_ediv (n / b) 256;have k:=Int.emod_nonneg n (show b≠0 by omega);have j:=Int.emod_lt_of_pos n a;have b1:=Int.emod_nonneg (n / b) (show(256:Int)≠0 by decide);have b2:=Int.emod_lt_of_pos (n / b) (show(0:Int)<256 by decide);generalize n % b=s at *;generalize n / b % 256=r at *;generalize n / b / 256=p at *;have i:r * b<=255 * b:=Int.mul_le_mul_of_nonneg_right mw mw;have g:0<=r * b:=Int.mul_nonneg b1 mw
 have e:n=(s+r * b)+b * 256 * p:=by
  rw[←f,←c,Int.mul_add,Int.mul_assoc b 256 p,Int.mul_comm b r];omega
 rw[e,Int.add_mul_emod_self_left,Int.emod_eq_of_lt mw mw]
theorem qkg(n:Int)(k:Nat)(a:k<=8):((ve5 (zW n 8) k:Nat):Int)=n % 2 ^ (8 * k):=by
 induction k with
 | zero=>rw[Nat.mul_zero,Int.pow_zero,Int.emod_one];rfl
 | succ k ih=>
  rw[ve5,qql n mw]
  push_cast
  rw[ih mw,←qbs];have e:(2:Int) ^ (8 * (k+1))=2 ^ (8 * k) * 256:=by rw[Nat.mul_add,Int.pow_add];rfl
  rw[e,qzt n _ (Int.pow_pos nh)]
theorem qvc(n:Int)(h:Rng n):qvb (zW n 8) 8=n:=by
 have e:=qkg n 8 nh;have a:((2:Int) ^ (8 * 8))=18446744073709551616:=nh;rw[a]at e;rw[vbb _ 8 nh,e];obtain⟨c,b⟩:=h;unfold wrap64;omega
end
section
def OpT(op:Nat):Prop:=op∈[0,1,2,3,4,5,6,7,8,10,11,16,17,18,19,22,23]
def qey(t:Tm):Tm:=
 if t.op=1 then⟨t.op,0,0,t.num,[],[]⟩
 else if t.op=22 then⟨t.op,t.left,0,0,t.str,t.esc⟩
 else if t.op=0\/t.op=2 then⟨t.op,0,0,0,t.str,[]⟩
 else if jk t.op then⟨t.op,t.left,t.right,0,[],[]⟩
 else if t.op=5\/t.op=23 then⟨t.op,t.left,0,0,[],[]⟩
 else .bare t.op
theorem qco(l r:mv)(b:Bool):Ps.take ⟨l++r,b⟩ l.length=(l,⟨r,b⟩):=by
 unfold Ps.take;rw[bh mx];simp
theorem qhd(x:UInt8)(r:mv)(b:Bool):Ps.next ⟨x::r,b⟩=(x,⟨r,b⟩):=by
 have:=qco [x] r b;unfold Ps.next;rw[show(x::r)=[x]++r from rfl,show(1:Nat)=[x].length from rfl,this];rfl
theorem xe{n:Nat}(h:(n:Int)<=m)(a:n<=255)(r:mv)(b:Bool):Ps.upTo ⟨UInt8.ofNat n::r,b⟩ m=(n,⟨r,b⟩):=by
 have e:(UInt8.ofNat n).toNat=n:=by rw[fu];omega
 unfold Ps.upTo;rw[qhd];simp only[e];rw[aj mw]
theorem qcq{s:mv}(h:(s.length:Int)<=m)(a:s.length<=255)(r:mv)(b:Bool):Ps.text ⟨qaa s++r,b⟩ m=(s,⟨r,b⟩):=by
 unfold Ps.text qaa;rw[cm,xe h a];exact qco s r b
theorem qki(h:Rng n)(r:mv)(b:Bool):Ps.number ⟨zW n 8++r,b⟩=(n,⟨r,b⟩):=by
 have e:=qco (zW n 8) r b;rw[j3]at e;unfold Ps.number;rw[e];simp only[qvc n h]
theorem qxo{f:Nat}(g:FitsT f t)(j:OpT t.op)(q:f<=80)(r:mv)(b:Bool):Ps.term ⟨encT t++r,b⟩ f=(qey t,⟨r,b⟩):=by
 have l:(UInt8.ofNat t.op).toNat=t.op:=by have:=g.op;rw[fu];omega
 have e:∀(x:mv),Ps.term ⟨UInt8.ofNat t.op::x,b⟩ f=Ps.body ⟨x,b⟩ f t.op:=λx=>by unfold Ps.term;rw[qhd];simp only[l]
 have o:=g.str;have s:=g.esc;have i:=g.sides;unfold OpT at j;unfold encT qey
 by_cases h1:t.op=1
 ·rw[bh h1,bh h1,cm,e]
  unfold Ps.body;rw[aj mw,bh h1,qki g.num]
 rw[aj h1,aj h1]
 by_cases h2:t.op=22
 ·obtain⟨a,_⟩:=i mw
  rw[bh h2,bh h2,bi,bi,cm,e];unfold Ps.body;rw[aj mw,aj h1,bh h2,cm,ej,xe mw mw];simp only;rw[qcq mw mw];simp only;rw[qcq mw mw]
 rw[aj h2,aj h2]
 by_cases a:t.op=0\/t.op=2
 ·rw[bh a,bh a,cm,e]
  unfold Ps.body;rw[aj mw,aj h1,aj h2,bh a,qcq mw mw]
 rw[aj a,aj a]
 by_cases h4:jk t.op=true
 ·have c:5<=t.op:=by simp[jk]at h4;omega
  obtain⟨k,u⟩:=i c;rw[bh h4,bh h4,cm,e];unfold Ps.body;rw[aj (by simp[jk]at h4;omega),aj h1,aj h2,aj a,bh h4,cm,xe mw mw];simp only;rw[cm,ej,xe mw mw]
 rw[aj h4,aj h4]
 by_cases c:t.op=5\/t.op=23
 ·obtain⟨k,_⟩:=i mw
  rw[bh c,bh c,cm,e];unfold Ps.body;rw[aj mw,aj h1,aj h2,aj a,aj h4,bh c,cm,ej,xe mw mw]
 rw[aj c,aj c,cm,e];unfold Ps.body;rw[bh (by simp[jk]at h4;simp at j;omega)];rfl
theorem qmd(ts:List Tm)(f:∀i t,ts[i]?=some t->FitsT i t)(e:∀t∈ts,OpT t.op)(j:ts.length<=80)(r:mv)(b:Bool):∀k,k<=ts.length->vE ⟨ts.flatMap encT++r,b⟩ k=((ts.take k).map qey,⟨(ts.drop k).flatMap encT++r,b⟩):=by
 intro k
 induction k with
 | zero=>intro _;simp[vE]
 | succ k ih=>
  intro g;have c:k<ts.length:=mw;have a:ts[k]?=some ts[k]:=ag c;have hd:ts.drop k=ts[k]::ts.drop (k+1):=ce c;rw[vE,ih mw];simp only;rw[hd,dw,bi,qxo (f k _ a) (e _ (eu _)) mw,show ts.take (k+1)=ts.take k++[ts[k]] by rw[dn,a];rfl,dt];rfl
theorem qkx(m:Int)(rs:List Nat)(e:∀r∈rs,(r:Int)<=m/\r<=255)(b:Bool):∀k,k<=rs.length->vS m ⟨rs.map UInt8.ofNat,b⟩ k=(rs.take k,⟨(rs.drop k).map UInt8.ofNat,b⟩):=by
 intro k
 induction k with
 | zero=>intro _;simp[vS]
 | succ k ih=>
  intro f;have a:k<rs.length:=mw;have c:rs[k]?=some rs[k]:=ag a;have hd:rs.drop k=rs[k]::rs.drop (k+1):=ce a;have h:=e rs[k] (eu _);rw[vS,ih mw];simp only;rw[hd,fe,xe h.1 h.2,show rs.take (k+1)=rs.take k++[rs[k]] by rw[dn,c];rfl]
theorem qgn(hd:mv)(ts:List Tm):∀k,k<=ts.length->qd8 hd ts k=hd++(ts.take k).flatMap encT:=by
 intro k
 induction k with
 | zero=>intro _;simp[qd8]
 | succ k ih=>
  intro b;have a:ts[k]?=some ts[k]:=ag mw;rw[qd8,ih mw,show ts.take (k+1)=ts.take k++[ts[k]] by rw[dn,a];rfl,aq,a,ij,dw,List.flatMap_nil,ew,bi];rfl
theorem qgo(hd:mv)(rs:List Nat):∀k,k<=rs.length->qjr hd rs k=hd++(rs.take k).map UInt8.ofNat:=by
 intro k
 induction k with
 | zero=>intro _;simp[qjr]
 | succ k ih=>
  intro b;have a:rs[k]?=some rs[k]:=ag mw;rw[qjr,ih mw,show rs.take (k+1)=rs.take k++[rs[k]] by rw[dn,a];rfl,aq,a,dt,bi];rfl
theorem qr1(a:Prg ts rs)(g:∀t∈ts,OpT t.op):yh (jV ts rs)=(ts.map qey,rs,true):=by
 have k:=a.terms;have l:=a.roots
 have j:jV ts rs=UInt8.ofNat ts.length::UInt8.ofNat rs.length::(ts.flatMap encT++rs.map UInt8.ofNat):=by
  unfold jV;rw[qgo _ _ _ nt,qgn _ _ _ nt,fk,fk];simp
 have b:qak (jV ts rs)=(ts.length,⟨UInt8.ofNat rs.length::(ts.flatMap encT++rs.map UInt8.ofNat),false⟩):=by
  unfold qak;rw[j,xe mw mw]
 have e:qal (jV ts rs)=(rs.length,⟨ts.flatMap encT++rs.map UInt8.ofNat,false⟩):=by
  unfold qal;rw[b];simp only;rw[xe mw mw]
 have c:qr3 (jV ts rs)=(ts.map qey,⟨rs.map UInt8.ofNat,false⟩):=by
  unfold qr3;rw[b,e];simp only;rw[qmd ts a.fits g k _ _ _ nt];simp
 have i:qhr (jV ts rs)=(rs,⟨[],false⟩):=by
  unfold qhr;rw[b,e,c];simp only;rw[qkx _ rs (λr f=>by have:=a.below r f;omega) _ _ nt];simp
 unfold yh;rw[c,i];rfl
theorem vbf(b:List Pr)(vs:List V)(a:OpT t.op):ofT b vs (qey t)=ofT b vs t:=by
 obtain⟨op,l,r,n,s,e⟩:=t;unfold OpT at a;simp only[eg,fl,or_false]at a;rcases a with rfl|rfl|rfl|rfl|rfl|rfl|rfl|rfl|rfl|rfl|rfl|rfl|rfl|rfl|rfl|rfl|rfl<;>simp[qey,ofT,jk,Tm.bare,jF]
theorem qs3(a:List Pr)(ts:List Tm)(c:∀t∈ts,OpT t.op):∀k,k<=ts.length->jU a (ts.map qey) k=jU a ts k:=by
 intro k
 induction k with
 | zero=>intro _;rfl
 | succ k ih=>
  intro e;have b:ts[k]?=some ts[k]:=ag mw;rw[jU,jU,ih mw,aq,dd,b,aq,b];simp only[it,Option.getD_some];rw[vbf a _ (c _ (eu _))]
theorem qux(a:List Pr)(ts:List Tm)(rs:List Nat)(b:∀t∈ts,OpT t.op):qym a (ts.map qey) rs=qym a ts rs:=by
 unfold qym;rw[ep,qs3 a ts b _ nt]
end
section
def qww(code:List UInt8)(ps:List Pr):List Nat×Int:=
 if xK ps then(if(yh code).2.2 then(qym ps (yh code).1 (yh code).2.1,0) else([],9)) else([],7)
theorem BytesAt.below{w':World}{v:Value}{l:mv}(h:BytesAt w w.heap.size v l)(e:Xb w w'):BytesAt w' w'.heap.size v l:=by
 obtain⟨a,c,j,q,g⟩:=h;refine⟨a,c,j,q,λi x k=>?_⟩;obtain⟨b,o,r,f,s⟩:=g i x k;exact⟨b,o,r,bg f e.size,(e.cell (p:=⟨b,o+i,none⟩) f).trans s⟩
def vds(w:World)(r:List Nat×Int)(e:Ending)(w':World):Prop:=∃v,e=.returned (.tuple #[v,.int .i64 r.2])/\IsAt w' w.heap.size v r.1/\Below w.heap.size w w'
set_option maxHeartbeats 3200000 in
theorem vi3(code:mv)(F:∀k,k<(qak code).1->qmm (vE (qal code).2 k).2 k)(s:Value)(i:List Pr)(ev:Value)(w:World)(h:BytesAt w w.heap.size s code)(y:EvIn w ev i)(z:EvGood i):
  nz 30 #[s,ev] w (vds w (qww code i)):=by
 have p:=qd (vdj y z);obtain⟨a,c,rfl,_⟩:∃a c,s=.slice a code.length c/\True:=by obtain⟨a,c,r,_⟩:=h;exact⟨a,c,r,trivial⟩
 have M:=qd h;have L:=qd y;obtain⟨C,A,B,rfl⟩:=y.slice
 cases E6:xK i with
 | false=>
  have g:qww code i=([],7):=by rw[qww,E6];rfl
  rw[g];rw[E6]at p;clear E6 g;go_enter func30,ntmps30
  go_wp2_with(go_at_call 37;refine p.mono ?_;rintro e b⟨rfl,f⟩)
  go_ret2
  exact⟨_,rfl,IsAt.nil _ _,f⟩
 | true=>
  rw[E6]at p;have N:=vdw E6;have H:=qd (qtm E6);have I:=qd z.rng;have RD:Hid (∀b,Xb w b->nz 42 #[.slice a code.length c] b (qdy b (yh code))):=qd λb E=>vbq code F _ b (M.below E)
  cases hP:(yh code).2.2 with
  | false=>
   have g:qww code i=([],9):=by rw[qww,E6,hP];rfl
   rw[g];unfold qdy at RD;rw[hP]at RD;clear E6 g hP;go_enter func30,ntmps30
   go_wp2_with(first|(go_at_call 37;refine p.mono ?_;rintro e b⟨rfl,f⟩;have f:=qd f)|(go_at_call 42;refine(RD _ f).mono ?_;rintro e D⟨l,rfl,o,j⟩;have o:=qd o;have j:=qd j))
   go_ret2
   exact⟨_,rfl,IsAt.nil _ _,qf f j⟩
  | true=>
   have g:qww code i=(qym i (yh code).1 (yh code).2.1,0):=by rw[qww,E6,hP];rfl
   rw[g];have K:=qd (qr2 hP);unfold qdy at RD;rw[hP]at RD;generalize (yh code).1=ts at *;generalize (yh code).2.1=rs at *;clear E6 g hP;obtain⟨R,g⟩:∃R,qym i ts rs=R:=⟨_,rfl⟩;have J:Hid (∀b l,EvArg b (.slice C A B) i->ProgAt b l 0 ts rs->nz 43 #[.pointer (some ⟨l,0,none⟩),.slice C A B] b (qsg b R)):=qd λb l r G=>g ▸ vbr i _ l 0 ts rs b G K r I H
   rw[g];clear g;go_enter func30,ntmps30
   go_wp2_with(first|(go_at_call 37;refine p.mono ?_;rintro e b⟨rfl,f⟩;have f:=qd f)|(go_at_call 42;refine(RD _ f).mono ?_;rintro e D⟨l,rfl,o,j⟩;have o:=qd o;have j:=qd j)|(go_at_call 43;refine(J _ _ ((L.below (qf f j)).arg N) o).mono ?_;rintro e O⟨v,rfl,q,u⟩;have q:=qd q;have u:=qd u))
   go_ret2
   exact⟨_,rfl,IsAt.mono q (bs f.size j.size),qf (qf f j) u⟩
theorem vd5(code:mv)(b:Value)(a:List Pr)(ev:Value)(w:World)(h:BytesAt w w.heap.size b code)(e:EvIn w ev a)(c:EvGood a):nz 30 #[b,ev] w (vds w (qww code a)):=
 vi3 code (λk f=>qie _ k (by have:(qak code).1<=255:=Ps.upTo_le ⟨code,false⟩ 80;omega)) b a ev w h e c
end
end Go.Proofs.YtfkcaldjphakpaaGreatDoor
