/- Op.Join -/
import Derived.Test.YtfkcaldjphakpaaGreatDoorM08
set_option maxHeartbeats 32000000
set_option maxRecDepth 100000
namespace Go.Proofs.YtfkcaldjphakpaaGreatDoor
open Go.RowKit Go.Proofs.Tryz
variable{a b n:Int}
theorem vj6(x y:V):zj 5 x y (xP x):=by
 have CON:=qd (λw=>qp7 x w);exact xk
theorem vj7(x y:V):zj 6 x y (qg3 x y):=by
 have CON:=qd (λw=>vde x y w);exact xk
theorem vj8(x y:V):zj 7 x y (orV x y):=by
 have CON:=qd (λw=>vif x y w);exact xk
theorem vj9(x y:V):zj 8 x y (eqV x y):=by
 have CON:=qd (λw=>qdt x y w);exact xk
theorem vja(x y:V):zj 9 x y (xP (eqV x y)):=by
 intro w;have CON:=qd (λw=>qdt x y w);have i:=qd (λw=>qp7 (eqV x y) w)
 conv=>arg 3;simp only[vV]
 go_enter func110,ntmps110
 repeat ((fail_if_success (with_reducible refine wp_exit ?_));go_step)
 with_reducible refine wp_exit ?_
 repeat (first|(with_reducible refine kH ?_)|(with_reducible refine zQ ?_)|((with_reducible refine jW ?hne ?_);(case hne=>rfl)))
 with_reducible refine jQ ?_
 go_wp2_with(first|(go_at_call 155;refine(CON _).mono ?_;rintro e l⟨rfl,j⟩)|(go_at_call 157;refine(i _).mono ?_;rintro e f⟨rfl,g⟩;have c:=qf j g;obtain⟨k,m⟩:=qj c;have o:w.heap.size+2<f.heap.size:=(by have:=c.size;simp at this;omega);simp only[vV]))
 refine ak (by simp[go_sem,k]<;>rfl) rfl ⟨rfl, ?_⟩;exact((((qf (jS _ _ _ _) c).setCell my _).setCell my _).setCell my _)
theorem vga(x y:V):zj 10 x y (yo x y):=by
 have CON:=qd (λw=>qim x y w);exact xk
theorem vgb(x y:V):zj 11 x y (leV x y):=by
 have CON:=qd (λw=>gj x y w);exact xk
theorem vgc(x y:V):zj 12 x y (yo y x):=by
 have CON:=qd (λw=>qim y x w);exact xk
theorem vgd(x y:V):zj 13 x y (leV y x):=by
 have CON:=qd (λw=>gj y x w);exact xk
theorem vgg(x y:V)(f:Rng x.num)(c:Rng y.num):zj 16 x y (qiq x y):=by
 have CON:=qd (λw=>qp5 x y f c w);exact xk
theorem vgh(x y:V)(f:Rng x.num)(c:Rng y.num):zj 17 x y (qrs x y):=by
 have CON:=qd (λw=>pH x y f c w);exact xk
theorem vgi(x y:V)(f:Rng x.num)(c:Rng y.num):zj 18 x y (qir x y):=by
 have CON:=qd (λw=>qfy x y f c w);exact xk
theorem vgj(x y:V)(c:Rng x.num):zj 19 x y (qq0 x y):=by
 have CON:=qd (λw=>qmh x y c w);exact xk
theorem quc(op:Int)(x y:V)(s:¬op=5)(q:¬op=6)(o:¬op=7)(m:¬op=8)(l:¬op=9)(C:¬op=12)(B:¬op=10)(u:¬op=13)(A:¬op=11)(t:¬op=14)(i:¬op=16)(z:¬op=15)(g:¬op=17)(f:¬op=18)(c:¬op=19):zj op x y (bV (x.kind==0)):=by
 intro w;have CON:=qd (λw=>qmi x w);have P:(op==5)=false:=ae.2 s;have O:(op==6)=false:=ae.2 q;have N:(op==7)=false:=ae.2 o;have M:(op==8)=false:=ae.2 m;have L:(op==9)=false:=ae.2 l;have I:(op==12)=false:=ae.2 C;have J:(op==10)=false:=ae.2 B;have F:(op==13)=false:=ae.2 u;have H:(op==11)=false:=ae.2 A;have K:(op==14)=false:=ae.2 t;have T:(op==16)=false:=ae.2 i;have G:(op==15)=false:=ae.2 z;have U:(op==17)=false:=ae.2 g;have Q:(op==18)=false:=ae.2 f;have R:(op==19)=false:=ae.2 c;clear s q o m l C B u A t i z g f c;obtain⟨r,k⟩:∃r,bV (x.kind==0)=r:=⟨_,rfl⟩;rw[k]at CON ⊢;clear k
 conv=>arg 3;simp only[vV]
 go_enter func110,ntmps110
 repeat ((fail_if_success (with_reducible refine wp_exit ?_));go_step)
 with_reducible refine wp_exit ?_
 repeat (first|(with_reducible refine kH ?_)|(with_reducible refine zQ ?_)|((with_reducible refine jW ?hne ?_);(case hne=>rfl)))
 with_reducible refine jQ ?_
 go_wp2_with(go_at_call 163;refine(CON _).mono ?_;rintro e D⟨rfl,j⟩;obtain⟨E,S⟩:=qj j;have W:w.heap.size+2<D.heap.size:=(by have:=j.size;simp at this;omega);simp only[vV])
 refine ak (by simp[go_sem,E]<;>rfl) rfl ⟨rfl, ?_⟩;exact((((qf (jS _ _ _ _) j).setCell my _).setCell my _).setCell my _)
theorem vi6(e:Rng a)(c:Rng b)(h:n=a+b):xp n=((decide (a<0) != decide (b<0))||(decide (wrap64 n<0)==decide (a<0))):=by
 unfold Rng at e c;rw[fq];simp[xp,wrap64];omega
theorem vfq(e:Rng a)(c:Rng b)(h:n=a - b):xp n=((decide (a<0)==decide (b<0))||(decide (wrap64 n<0)==decide (a<0))):=by
 unfold Rng at e c;rw[fq];simp[xp,wrap64];omega
theorem qnq{O:mu}(x y:V)(w:World)(c:O=⟨#[43]⟩/\n=x.num+y.num/\xp n=((decide (x.num<0) != decide (y.num<0))||(decide (wrap64 n<0)==decide (x.num<0)))\/O=⟨#[45]⟩/\n=x.num - y.num/\xp n=((decide (x.num<0)==decide (y.num<0))||(decide (wrap64 n<0)==decide (x.num<0)))):Calls prog 219 #[.string O,vV x,vV y] w λe w'=>e=.returned (vV (if jr x y&&xp n then iV n else nV))/\Xb w w':=by
 cases h:jr x y with
 | false=>exact pg _ x y h w
 | true=>
  have j:(x.kind != 2)=false:=by unfold jr at h;simp at h;simp[h.1]
  have i:(y.kind != 2)=false:=by unfold jr at h;simp at h;simp[h.2]
  have g:Hid (xp n=true->wrap64 n=n):=qd xY;rw[fm];generalize xp n=f at *;clear h
  conv=>arg 3;simp only[vV]
  by_cases h1:x.num<0<;>by_cases h2:y.num<0<;>by_cases h3:wrap64 n<0
  all_goals
   simp only[h1,h2,h3,decide_true,decide_false,bne_self_eq_false,ip,Bool.true_bne,Bool.false_bne,Bool.true_beq,Bool.false_beq,ma,mq,Bool.or_true,gs]at c;rcases c with⟨rfl,rfl,rfl⟩|⟨rfl,rfl,rfl⟩
   all_goals
    simp only[if_true,if_false,cu];go_enter func219,ntmps219
    go_wp2_with fail
    refine ak (by simp[go_sem]<;>first|rfl|exact⟨rfl,rfl,rfl⟩) rfl ⟨?_, ?_⟩
    ·first|rfl|(rw[q9 g trivial];rfl)
    ·repeat' (first|exact jS _ _ _ _|refine Below.setCell ?_ mx _)
theorem qno(x y:V)(f:Rng x.num)(c:Rng y.num)(w:World):nz 219 #[.string ⟨#[43]⟩,vV x,vV y] w λe w'=>e=.returned (vV (qiq x y))/\Xb w w':=qnq x y w (.inl ⟨rfl,rfl,vi6 f c rfl⟩)
theorem qnp(x y:V)(f:Rng x.num)(c:Rng y.num)(w:World):nz 219 #[.string ⟨#[45]⟩,vV x,vV y] w λe w'=>e=.returned (vV (qrs x y))/\Xb w w':=qnq x y w (.inr ⟨rfl,rfl,vfq f c rfl⟩)
theorem vc7(x y:V)(g:Rng x.num)(f:Rng y.num)(w:World):Calls prog 219 #[.string ⟨#[42]⟩,vV x,vV y] w λe w'=>e=.returned (vV (qir x y))/\Xb w w':=by
 cases h:jr x y with
 | false=>
  have e:qir x y=nV:=by unfold qir;rw[h];rfl
  rw[e];exact pg _ x y h w
 | true=>
  have e:qir x y=if xp (x.num * y.num) then iV (x.num * y.num) else nV:=by unfold qir;rw[h,fm]
  rw[e];have m:(x.kind != 2)=false:=by unfold jr at h;simp at h;simp[h.1]
  have l:(y.kind != 2)=false:=by unfold jr at h;simp at h;simp[h.2]
  have k:=qd (qi2 x.num y.num g f);clear e h;cases hf:xp (x.num * y.num)
  all_goals
   have c:=qd hf;clear hf
   conv=>arg 3;simp only[vV]
   go_enter func219,ntmps219
   go_wp2_with(go_at_call 260;refine(k _).mono ?_;rintro e w'⟨n,ok,rfl,j,i,rfl⟩;rw[j,q9 c];try rw[i (q9 c)])
   refine ak (by simp[go_sem]<;>first|rfl|exact⟨rfl,rfl,rfl⟩) rfl ⟨rfl, ?_⟩
   repeat' (first|exact jS _ _ _ _|refine Below.setCell ?_ mx _)
theorem vc6(x y:V)(j:Rng x.num)(w:World):Calls prog 219 #[.string ⟨#[47]⟩,vV x,vV y] w λe w'=>e=.returned (vV (qq0 x y))/\Xb w w':=by
 cases h:jr x y with
 | false=>
  have e:qq0 x y=nV:=by unfold qq0;rw[h];rfl
  rw[e];exact pg _ x y h w
 | true=>
  have e:qq0 x y=if(!(y.num==0)&&xp (x.num.tdiv y.num)) then iV (x.num.tdiv y.num) else nV:=by unfold qq0;rw[h,fm]
  rw[e];have s:(x.kind != 2)=false:=by unfold jr at h;simp at h;simp[h.1]
  have o:(y.kind != 2)=false:=by unfold jr at h;simp at h;simp[h.2]
  clear e h;have g:=qn3 (b:=y.num) j;have m:Hid (xp (x.num.tdiv y.num)=true->wrap64 (x.num.tdiv y.num)=x.num.tdiv y.num):=qd xY;generalize xp (x.num.tdiv y.num)=f at *;obtain⟨p,l⟩:∃p,(x.num==-9223372036854775808)=p:=⟨_,rfl⟩;obtain⟨q,k⟩:∃q,(y.num==-1)=q:=⟨_,rfl⟩;obtain⟨r,c⟩:∃r,(y.num==0)=r:=⟨_,rfl⟩;have i:r=false->¬y.num=0:=λh=>by rw[h]at c;simpa using c
  have E:∀a b:Int,(a != b)=!(a==b):=λ_ _=>rfl
  rw[l,k]at g;rw[c]
  conv=>arg 3;simp only[vV]
  cases p<;>cases q<;>cases r<;>cases f<;>first|exact absurd g nh|skip
  all_goals
   clear g
   try have i:=i rfl
   go_enter func219,ntmps219
   go_wp2_with fail
   refine ak (by simp[go_sem]<;>first|rfl|exact⟨rfl,rfl,rfl⟩) rfl ⟨?_, ?_⟩
   ·first|rfl|(rw[q9 m (by trivial)];rfl)
   ·repeat' (first|exact jS _ _ _ _|refine Below.setCell ?_ mx _)
end Go.Proofs.YtfkcaldjphakpaaGreatDoor
