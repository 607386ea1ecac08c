/- The laws by the docume -/
import Derived.Test.YtdmmmgodfceilaaGreatDoorM22
namespace Go.Proofs.YtdmmmgodfceilaaGreatDoor
open Go.RowKit
open Go renaming Value->Ap,World->Ao
open Go.Ending renaming returned->Ak
open Go.IntKind renaming i64->J
open Go.Obj renaming cells->Al
open Go.Value renaming bool->Ah,int->I,pointer->Ag,slice->C,string->Y,tuple->Aj
open Option renaming none->O,some->G
theorem qnt{W U b:Ao}{p:Pl}(f:∀k,p.own k->k<W.1.size){o:Obj}(d:U.1=(W.alloc o).1)(c:Grow p.own U b):W.1.size<b.1.size/\∀j,b.cell? ⟨W.1.size,j,O⟩=(W.alloc o).cell? ⟨W.1.size,j,O⟩:=by
 have g:U.1.size=W.1.size+1:=by rw[d];simp
 have:=c.size;refine⟨ub,λj=>aw (w:=W.alloc o) (a:=⟨W.1.size,j,O⟩) ?_⟩;have e:=c.block W.1.size ub λe=>uu (f W.1.size e)
 rw[d]at e;exact e
section
variable {w W:Ao} {pv hv:Ap} {hs:List (Nat×Nat)} {ps:List Pl} {i:Nat} {p:Pl} {x:Ox}
set_option maxHeartbeats 16000000 in
set_option maxRecDepth 100000 in
theorem qv5(h:ApAt w W pv hv hs ps (λ_=>False))(g:ps[i]?=G p)(f:OxOk W x)(q:LibOk W)(n:x.A=6):
  Calls Tryz.prog 18 #[Ag (G ⟨w.1.size,0,O⟩),ptV p,oxV x] W λe W'=>e=Ak (Ah true)/\AfPl w pv hv hs ps i p.last W':=by
 obtain⟨t,r,s,B⟩:=f.ev.slice;have hp:=h.each p (bg g);have c0:=hp.c0;have plt:=hp.lt;have pne:¬p.pb=W.1.size:=ub;have d:=qd λ(U:Ao) (hb:Xb W U)=>vnr (h.below hb) g (q.below hb ui) x.id x.Q f.Q
 have y:=qd λ(U c:Ao) (hg:Grow p.own U c) (hU:U.1=(W.alloc (Al #[I J 6,I J x.n,I J x.id,Y (BS x.Q),C x.la x.ts.length x.lc,C t r s] 34)).1)=>qnt hp.sz hU hg
 generalize (qel p.L x.id x.Q).2.1=E at d;generalize (qel p.L x.id x.Q).2.2=P at d;have k:=qd ((Below.refl W.1.size W).alloc ui (Al #[I J 6,I J x.n,I J x.id,Y (BS x.Q),C x.la x.ts.length x.lc,C t r s] 34));unfold oxV ptV;rw[n,B];clear h f q n B hp g;go_enter Tryz.func18,Tryz.ntmps18
 go_wp2
 go_cut [7,8] (λF D a=>F=I J E/\D=I J P/\Hid ((W.1.size<a.1.size/\Xc a W.1.size 2 (I J x.id)/\Xc a W.1.size 3 (Y (BS x.Q))/\Xc a p.pb 1 (Ag (G ⟨p.mb,0,O⟩)))/\∀V,Xb a V->Calls Tryz.prog 41 #[Ag (G ⟨p.mb,0,O⟩),I J x.id,Y (BS x.Q)] V λe W2=>e=Ak (Aj #[I J E,I J P])/\AfPl w pv hv hs ps i p.last W2))
 case first=>
  go_region_with(go_at_call 40;refine be (d _ (by first|exact q9 k|exact k.drew)) ?_;rintro c⟨z,u,b⟩;have j:=qd b;obtain⟨m,l⟩:=q9 y _ _ z rfl;have b2:Xc c W.1.size 2 (I J x.id):=(l 2).trans uc;have v:Xc c W.1.size 3 (Y (BS x.Q)):=(l 3).trans uc;clear z b l)
  all_goals
   go_wp2
   go_meet
   exact⟨rfl,rfl,qd ⟨⟨m,b2,v,u⟩,q9 j⟩⟩
 obtain⟨rfl,rfl,A⟩:=hcut;obtain⟨⟨m,b2,v,u⟩,b⟩:=q9 A;have j:=qd b;clear b A d y k c0
 go_wp2
 go_region_with(go_at_call 41;refine be (j _ (by first|exact uj|exact(uj).drew)) λw2 o=>?_;have H:=qd o;clear o)
 all_goals
  go_wp2
  go_ret;exact⟨rfl,q9 H⟩
end
end Go.Proofs.YtdmmmgodfceilaaGreatDoor
