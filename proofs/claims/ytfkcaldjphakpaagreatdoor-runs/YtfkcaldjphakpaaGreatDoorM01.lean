/- row -/
import Derived.Test.YtfkcaldjphakpaaGreatDoorM07
set_option maxHeartbeats 64000000
set_option maxRecDepth 100000
namespace Go.Proofs.YtfkcaldjphakpaaGreatDoor
open Go.RowKit Go.Proofs.Tryz
variable{l:Ast}{s:mu}{e:Ending}{en k:Int}{ts:List mv}{ks:List Int}{xs:List Value}{base n pl rb size:Nat}{row:Option Nat}{r:Res}{st st':St}{f:St->Res}{lv v:Value}{w w' w1:World}
def j9(s:ByteArray)(f:St->Res)(ks:List Int):Nat->Ast->St->Res
 | 0,l,st=>.ok l st
 | n+1,l,st=>if ks.contains st.tk.kind then(match jy s f st l with
   | .ok l' st'=>j9 s f ks n l' st'
   | .err en pl=>.err en pl) else .ok l st
def jH(s:ByteArray)(f:St->Res)(ks:List Int)(st:St):Res:=match f st with
 | .ok l st'=>j9 s f ks (s.size+1) l st'
 | .err en pl=>.err en pl
theorem ky(h:ks.contains st.tk.kind=false):j9 s f ks (n+1) l st=.ok l st:=by
 rw[j9,aj (by rw[h];simp)]
theorem kx{a:Ast}(h:ks.contains st.tk.kind=true)(b:jy s f st l=.ok a st'):j9 s f ks (n+1) l st=j9 s f ks n a st':=by
 rw[j9,bh h,b]
theorem gC{pl:Int}(h:ks.contains st.tk.kind=true)(a:jy s f st l=.err en pl):j9 s f ks (n+1) l st=.err en pl:=by
 rw[j9,bh h,a]
theorem qce(h:f st=.ok l st'):jH s f ks st=j9 s f ks (s.size+1) l st':=by unfold jH;rw[h]
theorem qa3{pl:Int}(h:f st=.err en pl):jH s f ks st=.err en pl:=by unfold jH;rw[h]
def vkp(w:World)(rb:Nat):Nat:=match w.cell? ⟨rb,2,none⟩ with
 | some (.int _ n)=>n.toNat
 | _=>0
theorem qf4(h:RdAt w rb s st):vkp w rb=st.place:=by
 unfold vkp;rw[h.c2];simp
theorem KsAt.kept{b:Nat}(h:KsAt w b ks)(c:Kept rb w w')(i:b<w.heap.size)(a:¬b=rb):KsAt w' b ks:=
 λj k g=>((jG c).1 b j i a).trans (h j k g)
theorem qfo{K:Nat}(hK:K=102\/K=147\/K=266\/K=301)(rb o cap:Nat)(s:mu)(op:Nat)(f:St->Res)(C:zh K rb s op f)(ks:List Int)(OX:ks.length<=8)(h0:ks.contains 0=false)(st:St)(w:World)(h:Ready rb s w st)(F1:st.op=op)(X:KsAt w o ks)(FJ:o<w.heap.size)(A:¬o=rb):
  nz 101 #[.pointer (some ⟨rb,0,none⟩),.func (.func K) #[.pointer (some ⟨rb,0,none⟩)] #[],.slice (some ⟨o,0,none⟩) ks.length cap] w (Gives rb s w op st.place (jH s f ks st)):=by
 have H:=qd h;have Z:=qd (qdb (show K=102\/K=147\/K=266\/K=301\/K=241 by omega) rb s op f C);have HF:=qd C;have HO:=qd X;have A0:=h.lt;clear h C X;rcases hK with rfl|rfl|rfl|rfl
 all_goals
  cases D4:f st with
  | err en pl=>
   rw[qa3 D4];have O:=qd D4;clear D4;go_enter func101,ntmps101
   go_wp2_with((first|go_at_call 102|go_at_call 147|go_at_call 266|go_at_call 301);refine(HF _ st H F1).mono ?_;rintro e w1⟨i,t⟩;rw[q9 O]at t;subst t;simp only[qU])
   exact⟨rfl,i,rfl⟩
  | ok l0 st0=>
   rw[qce D4];have O:=qd D4;clear D4;obtain⟨R,b⟩:∃r,j9 s f ks (s.size+1) l0 st0=r:=⟨_,rfl⟩;rw[b];have HR:=qd b;clear b;go_enter func101,ntmps101
   go_wp2_with((first|go_at_call 102|go_at_call 147|go_at_call 266|go_at_call 301);refine(HF _ st H F1).mono ?_;rintro e w1⟨i,t⟩;rw[q9 O]at t;obtain⟨v1,rfl,I,W,T,P0,V8⟩:=t;have I:=qd I;have W:=qd W;have i:=qd i;have T:=qd T)
   go_loopw [7] (λv wr=>∃(n:Nat) (l:Ast) (a:St),Hid (R=j9 s f ks n l a)/\s.size<n+a.place/\IsNode rb wr v l/\Hid (Ready rb s wr a)/\a.op=op/\st.place<=a.place/\Kept rb w wr) (λv wr=>s.size+1 - vkp wr rb)
   case atStart=>exact⟨s.size+1,l0,st0,qd HR.symm,mw,q9 I,qd (H.kept i W T),P0,V8,q9 i⟩
   case round=>
    obtain⟨n,l,a,b,hn,U,c,z,K0,B⟩:=hrel;have P:=(q9 c).fine;have Y:=P.place;obtain⟨lb,rfl⟩:=U.ptr;obtain⟨m,rfl⟩:∃m,n=m+1:=⟨n - 1,mw⟩;have J:=qd (HO.kept B FJ A);have M:=qd U;have Q:=qd B;have dD:=(q9 c).lt;have SK:=qd (qf4 c.at');obtain⟨c0,c1,G,F,c4,E,D,fz⟩:=(q9 c).at';clear U B;have CON:=λw=>qe4 o cap ks a.tk.kind w OX
    cases hc:ks.contains a.tk.kind with
    | false=>
     have j:Hid (R=.ok l a):=qd (by rw[q9 b,ky hc]);rw[hc]at CON;have u:=qd CON;clear hc CON b c0 G F c4 E D fz
     go_wp2_with(go_at_call 145;refine(u _ J).mono ?_;rintro e w'⟨rfl,rfl⟩)
     go_ret;rw[q9 j];exact⟨q9 Q,_,rfl,q9 M,c.at',P,z,K0⟩
    | true=>
     rw[hc]at CON;have u:=qd CON;have L:a.tk.kind≠0:=λh=>by rw[h,h0]at hc;cases hc
     have WK:=P.long L
     cases hj:jy s f a l with
     | err en pl=>
      have j:Hid (R=.err en pl):=qd (by rw[q9 b,gC hc hj]);have S:=qd hj;clear hc CON b hj c0 G F c4 E D fz L
      go_wp2_with(first|(go_at_call 145;refine(u _ J).mono ?_;rintro e w'⟨rfl,rfl⟩)|(go_at_call 146;refine(Z a l _ _ c z M).mono ?_;rintro e w2⟨g,q⟩;rw[q9 S]at q;subst q;simp only[qU]))
      rw[q9 j];exact⟨rfl,Q.trans g,rfl⟩
     | ok l2 J1=>
      have j:Hid (R=j9 s f ks m l2 J1):=qd (by rw[q9 b,kx hc hj]);have S:=qd hj;clear hc CON b hj c0 G F c4 E D fz L
      go_wp2_with(first|(go_at_call 145;refine(u _ J).mono ?_;rintro e w'⟨rfl,rfl⟩)|(go_at_call 146;refine(Z a l _ _ c z M).mono ?_;rintro e w2⟨g,q⟩;rw[q9 S]at q;obtain⟨v2,rfl,N,y,x,M6,N0⟩:=q;have BJ:=qd (qf4 y);have y:=qd y;have N:=qd N;have g:=qd g;have x:=qd x))
      have A3:=(q9 x).place
      go_roundw
      case rel=>exact⟨m,l2,J1,j,mw,q9 N,qd (c.kept g y x),M6,mw,Q.trans g⟩
      case measure=>rw[q9 SK,q9 BJ];omega
theorem Ready.allocd(h:Ready rb s w st)(o:Obj):Ready rb s (w.alloc o) st:=
 h.kept ((Kept.refl rb w).alloc o) (h.at'.allocd o h.lt) h.fine
theorem Gives.from{op a:Nat}(b:Kept rb w w1)(h:Gives rb s w1 op a r e w'):Gives rb s w op a r e w':=⟨b.trans h.1,h.2⟩
theorem Gives.cases{op a:Nat}(h:Gives rb s w op a r e w'):(∃v,e=.returned v/\Gives rb s w op a r (.returned v) w')\/(∃en pl,e=qU en pl/\Gives rb s w op a r (qU en pl) w'):=by
 cases r with
 | ok t st=>obtain⟨b,v,rfl,c⟩:=h;exact .inl ⟨v,rfl,b,v,rfl,c⟩
 | err en pl=>obtain⟨b,rfl⟩:=h;exact .inr ⟨en,pl,rfl,b,rfl⟩
theorem qgm(rb:Nat)(s:mu)(op:Nat)(f:St->Res)(c:zh 102 rb s op f):zh 55 rb s op (jH s f [6]):=by
 intro w st h m;have H:=qd h;have i:=qd c;have o:∀(fn:Fn) (first cap:Array Value) (w:World),(Instr.makeFunc fn first cap).run prog w=.ok (.func fn first cap) w:=λ_ _ _ _=>rfl
 have q:=h.lt;clear h c;go_enter func55,ntmps55
 go_wp2_with fail
 refine(qfo nh rb w.heap.size 1 s op f i [6] nh nh st _ (H.allocd _) m ?ks mx mw).mono ?_
 case ks=>
  intro j k b
  match j,b with
  | 0,b=>simp at b;subst b;simp
 rintro e w' a;rcases a.cases with⟨v,rfl,a⟩|⟨en,pl,rfl,a⟩
 ·have g:=qd (a.from ((Kept.refl rb w).alloc _))
  clear a
  go_wp2_with fail
  go_ret;exact q9 g
 ·exact⟨rfl,a.from ((Kept.refl rb w).alloc _)⟩
theorem qpk(rb:Nat)(s:mu)(op:Nat)(f:St->Res)(c:zh 147 rb s op f):zh 102 rb s op (jH s f [5]):=by
 intro w st h m;have H:=qd h;have i:=qd c;have o:∀(fn:Fn) (first cap:Array Value) (w:World),(Instr.makeFunc fn first cap).run prog w=.ok (.func fn first cap) w:=λ_ _ _ _=>rfl
 have q:=h.lt;clear h c;go_enter func102,ntmps102
 go_wp2_with fail
 refine(qfo nh rb w.heap.size 1 s op f i [5] nh nh st _ (H.allocd _) m ?ks mx mw).mono ?_
 case ks=>
  intro j k b
  match j,b with
  | 0,b=>simp at b;subst b;simp
 rintro e w' a;rcases a.cases with⟨v,rfl,a⟩|⟨en,pl,rfl,a⟩
 ·have g:=qd (a.from ((Kept.refl rb w).alloc _))
  clear a
  go_wp2_with fail
  go_ret;exact q9 g
 ·exact⟨rfl,a.from ((Kept.refl rb w).alloc _)⟩
theorem qxk(rb:Nat)(s:mu)(op:Nat)(f:St->Res)(c:zh 266 rb s op f):zh 241 rb s op (jH s f [22,23]):=by
 intro w st h m;have H:=qd h;have i:=qd c;have o:∀(fn:Fn) (first cap:Array Value) (w:World),(Instr.makeFunc fn first cap).run prog w=.ok (.func fn first cap) w:=λ_ _ _ _=>rfl
 have q:=h.lt;clear h c;go_enter func241,ntmps241
 go_wp2_with fail
 refine(qfo nh rb w.heap.size 2 s op f i [22,23] nh nh st _ (H.allocd _) m ?ks mx mw).mono ?_
 case ks=>
  intro j k a
  match j,a with
  | 0,a=>simp at a;subst a;simp
  | 1,a=>simp at a;subst a;simp
 rintro e w' b;rcases b.cases with⟨v,rfl,b⟩|⟨en,pl,rfl,b⟩
 ·have g:=qd (b.from ((Kept.refl rb w).alloc _))
  clear b
  go_wp2_with fail
  go_ret;exact q9 g
 ·exact⟨rfl,b.from ((Kept.refl rb w).alloc _)⟩
theorem qf6(rb:Nat)(s:mu)(op:Nat)(f:St->Res)(c:zh 301 rb s op f):zh 266 rb s op (jH s f [24,25]):=by
 intro w st h m;have H:=qd h;have i:=qd c;have o:∀(fn:Fn) (first cap:Array Value) (w:World),(Instr.makeFunc fn first cap).run prog w=.ok (.func fn first cap) w:=λ_ _ _ _=>rfl
 have q:=h.lt;clear h c;go_enter func266,ntmps266
 go_wp2_with fail
 refine(qfo nh rb w.heap.size 2 s op f i [24,25] nh nh st _ (H.allocd _) m ?ks mx mw).mono ?_
 case ks=>
  intro j k a
  match j,a with
  | 0,a=>simp at a;subst a;simp
  | 1,a=>simp at a;subst a;simp
 rintro e w' b;rcases b.cases with⟨v,rfl,b⟩|⟨en,pl,rfl,b⟩
 ·have g:=qd (b.from ((Kept.refl rb w).alloc _))
  clear b
  go_wp2_with fail
  go_ret;exact q9 g
 ·exact⟨rfl,b.from ((Kept.refl rb w).alloc _)⟩
def ko(s:ByteArray)(st:St):St:={ qg s st with op:=st.op+1 }
def vi(s:ByteArray)(f:St->Res)(st:St):Res:=if st.op=12 then .err 3 st.place else match f (ko s st) with
 | .ok t st'=>if st'.tk.kind=27 then .ok t { qg s st' with op:=st.op } else .err 2 st'.place
 | .err en pl=>.err en pl
theorem Fine.op(h:Fine s st)(n:Nat):Fine s { st with op:=n }:=⟨h.place,h.after,h.long⟩
theorem Fine.next(h:Fine s st):Fine s (qg s st):=qC s st h.after
theorem Fine.le(h:Fine s st)(a:st.tk.kind≠0):st.place<=(qg s st).place:=bs (Nat.le_of_lt (h.long a)) (jT s st)
theorem yj(h:Ready rb s w st)(k:Int):nz 56 #[.pointer (some ⟨rb,0,none⟩),.int .i64 k] w λe w'=>Kept rb w w'/\(st.tk.kind=k/\e=.returned (tkV st.tk st.place)/\Ready rb s w' (qg s st)\/¬st.tk.kind=k/\e=qU 2 st.place):=by
 by_cases hk:st.tk.kind=k
 ·exact(qfu rb s st k w h.size h.fine.after h.at' h.lt h.err hk).mono λ_ _ ⟨b,a,c⟩=>⟨c,.inl ⟨hk,b,h.kept c a h.fine.next⟩⟩
 ·exact(qmc rb s st k w h.at' h.lt hk).mono λ_ _ ⟨b,a⟩=>⟨a,.inr ⟨hk,b⟩⟩
theorem qfv(h:Ready rb s w st)(b:st.tk.kind=k):nz 56 #[.pointer (some ⟨rb,0,none⟩),.int .i64 k] w λe w'=>e=.returned (tkV st.tk st.place)/\Ready rb s w' (qg s st)/\Kept rb w w':=
 (qfu rb s st k w h.size h.fine.after h.at' h.lt h.err b).mono λ_ _ ⟨g,c,a⟩=>⟨g,h.kept a c h.fine.next,a⟩
theorem qma(h:Ready rb s w st)(k:Int):nz 267 #[.pointer (some ⟨rb,0,none⟩),.int .i64 k] w λe w'=>∃b st',e=.returned (.bool b)/\Kept rb w w'/\Ready rb s w' st'/\(b=true/\st.tk.kind=k/\st'=qg s st\/b=false/\¬st.tk.kind=k/\st'=st):=by
 by_cases hk:st.tk.kind=k
 ·exact(vd2 rb s st k w h.size h.fine.after h.at' h.lt h.err hk).mono λ_ _ ⟨c,a,g⟩=>⟨true,_,c,g,h.kept g a h.fine.next,.inl ⟨rfl,hk,rfl⟩⟩
 ·exact(vhv rb s st k w h.at' hk).mono λ_ _ ⟨c,a⟩=>⟨false,_,c,a ▸ Kept.refl _ _,a ▸ h,.inr ⟨rfl,hk,rfl⟩⟩
abbrev tkC(st:St):Array Value:=#[.int .i64 st.tk.kind,.int .i64 st.place,.int .i64 st.tk.num,.string (BS st.tk.str)]
theorem gG(a:Kept rb (w.alloc (.cells (tkC st) 91)) w')(n:¬w.heap.size=rb):(∀i,w'.cell? ⟨w.heap.size,i,none⟩=(tkC st)[i]?)/\w.heap.size<w'.heap.size:=
 ⟨λi=>((jG a).1 _ i mx n).trans mx,by have:=a.size;simp at this;omega⟩
theorem qea(h:Ready rb s w st)(g:st.op<=12):nz 199 #[.pointer (some ⟨rb,0,none⟩)] w λe w'=>Kept rb w w'/\(¬st.op=12/\e=.returned (tkV st.tk st.place)/\Ready rb s w' (ko s st)\/st.op=12/\e=qU 3 st.place):=by
 by_cases hk:st.op=12
 ·exact(qzw rb s st w h.at' h.lt hk).mono λ_ _ ⟨b,a⟩=>⟨a,.inr ⟨hk,b⟩⟩
 ·exact(qzy rb s st w h.size h.fine.after h.at' h.lt h.err h.glob mw).mono λ_ _ ⟨b,a,c⟩=>⟨c,.inl ⟨hk,b,h.kept c a (h.fine.next.op _)⟩⟩
theorem Gives.split{op a:Nat}(h:Gives rb s w op a r e w')(H:Ready rb s w st):Kept rb w w'/\((∃t st' b,r=.ok t st'/\e=.returned (.pointer (some ⟨b,0,none⟩))/\IsNode rb w' (.pointer (some ⟨b,0,none⟩)) t/\Ready rb s w' st'/\st'.op=op/\a<=st'.place)\/∃en pl,r=.err en pl/\e=qU en pl):=by
 cases r with
 | ok t st'=>obtain⟨c,v,rfl,g,o,m,j,i⟩:=h;obtain⟨b,rfl⟩:=g.ptr;exact⟨c,.inl ⟨t,st',b,rfl,rfl,g,H.kept c o m,j,i⟩⟩
 | err en pl=>exact⟨h.1,.inr ⟨en,pl,rfl,h.2⟩⟩
theorem Ready.drew(h:Ready rb s w st):Ready rb s w.drew st:=h.kept (Kept.refl _ _).drew (h.at'.below ((Below.refl w.heap.size w).drew) h.lt) h.fine
theorem qk7(rb:Nat)(s:mu)(op:Nat)(F1:op<=12)(f:St->Res)(x:op<12->zh 55 rb s (op+1) f)(w:World)(st:St)(h:Ready rb s w st)(L:st.op=op)(M:st.tk.kind≠0):
  nz 331 #[.pointer (some ⟨rb,0,none⟩)] w (Gives rb s w op st.place (vi s f st)):=by
 have H:=qd h;have S9:=h.fine.le M;have Q:=qd x;obtain⟨R,m⟩:∃R,vi s f st=R:=⟨_,rfl⟩;rw[m];have O:=qd m;clear h x m;go_enter func331,ntmps331
 go_wp2_with(first|(go_at_call 199;refine(qea H mw).mono ?_;rintro e w1⟨I,⟨q,rfl,F⟩|⟨q,rfl⟩⟩;all_goals(have a:=qd I;have i:=qd q;clear I q);all_goals first|(have A:=qd F;clear F;simp only[tkV])|simp only[qU])|(go_at_call 55;refine(Q (by have:=q9 i;omega) _ (ko s st) A (by show st.op+1=op+1;omega)).mono ?_;rintro e T u;obtain⟨G,⟨t,N,U,j,rfl,C,D,B,N0⟩|⟨en,pl,j,rfl⟩⟩:=u.split A;all_goals(replace a:=qd (a.trans G);have P:=qd j;clear G u j);all_goals first|(have z:=qd D;have K:=qd C;have S:=qd B;clear D C B)|simp only[qU])|(go_at_call 56;refine(yj z 27).mono ?_;rintro e J⟨g,⟨o,rfl,c⟩|⟨o,rfl⟩⟩;all_goals(replace a:=qd (a.trans g);have b:=qd o;clear o);all_goals first|(have Z:J.cell? ⟨rb,6,none⟩=some (.int .i64 ((op:Int)+1)):=(by rw[c.at'.c6,qxg,q9 S];simp);have Y:=c.at'.fz;have y:=qd c;have g:=qd g;clear c;simp only[tkV])|simp only[qU]))
 all_goals
  have E:=q9 O;unfold vi at E
  first
  | (rw[bh (q9 i)]at E;subst E;exact⟨rfl,q9 a,rfl⟩)
  | (
   rw[aj (q9 i),q9 P]at E
   first
   | (
    have _q:=b
    dsimp only at E
    first
    | (rw[aj (q9 b)]at E;subst E;exact⟨rfl,q9 a,rfl⟩)
    | (
     rw[bh (q9 b)]at E;subst E;go_ret;have X:=(q9 z).fine.le (by rw[q9 b];decide);have W:(ko s st).place=(qg s st).place:=rfl
     exact⟨a.setCell 6 _,_,rfl,K.kept (g.setCell 6 _),y.at'.setOp st.op _ mw,y.fine.op _,L,by show st.place<=(qg s N).place;omega⟩))
   | (subst E;exact⟨rfl,q9 a,rfl⟩))
theorem IsNode.one(a:IsNode rb w lv l)(c:rb<w.heap.size)(op place:Int):
  IsNode rb ((w.alloc (.cells #[lv] 67)).alloc (.cells #[.int .i64 op,.int .i64 place,.slice (some ⟨w.heap.size,0,none⟩) 1 1,.int .i64 0,.string ⟨#[]⟩,.string ⟨#[]⟩,.slice none 0 0] 102))
   (.pointer (some ⟨w.heap.size+1,0,none⟩)) (.un ⟨op,place,0,[],[],[]⟩ l):=by
 have b:Kept rb w ((w.alloc (.cells #[lv] 67)).alloc (.cells #[.int .i64 op,.int .i64 place,.slice (some ⟨w.heap.size,0,none⟩) 1 1,.int .i64 0,.string ⟨#[]⟩,.string ⟨#[]⟩,.slice none 0 0] 102)):=((Kept.refl rb w).alloc _).alloc _;refine⟨w.heap.size+1,w.heap.size,lv,rfl,⟨mw,mx,mx,mx,mx,mx,by simp[BS],by simp[BS],.slice none 0 0,mx,.inl ⟨rfl,rfl⟩⟩,c,my, ?_,a.kept b⟩;rw[bt _ _ _ mx,cd _ _ _ _ rfl];rfl
theorem pR(rb:Nat)(x:Ast)(c:Value)(place:Int)(w:World)(a:IsNode rb w c x)(h:rb<w.heap.size):
  nz 200 #[c,.int .i64 place] w λe w'=>(∃v,e=.returned v/\IsNode rb w' v (.un ⟨5,place,0,[],[],[]⟩ x))/\Xb w w':=by
 obtain⟨b,rfl⟩:=a.ptr;have g:=qd a;clear a;go_enter func200,ntmps200
 go_wp2_with fail
 go_ret;exact⟨⟨_,rfl,g.one h 5 place⟩,qI _ _ _⟩
theorem Kept.grown{a:World}(h:Kept rb a w)(b:w.grownBy w' row)(i:∀k,row=some k->a.heap.size<=k):Kept rb a w':=
 ⟨b.os.trans h.os,b.tape.trans h.tape,b.output.trans h.output,bs h.size b.size,λk c g=>(b.block k (bg c h.size) (λe=>by have:=i k e.symm;omega)).trans (h.block k c g)⟩
theorem RdAt.same(h:RdAt w rb s st)(c:w'.heap[rb]?=w.heap[rb]?):RdAt w' rb s st:=by
 have b:∀j,w'.cell? ⟨rb,j,none⟩=w.cell? ⟨rb,j,none⟩:=λj=>aw (w:=w) (w':=w') (a:=⟨rb,j,none⟩) c
 have g:∀j,w'.frozen? ⟨rb,j,none⟩=w.frozen? ⟨rb,j,none⟩:=λj=>cf (w:=w) (w':=w') (a:=⟨rb,j,none⟩) c
 exact⟨(b 0).trans h.c0,(b 1).trans h.c1,(b 2).trans h.c2,(b 3).trans h.c3,(b 4).trans h.c4,(b 5).trans h.c5,(b 6).trans h.c6,λj=>(g j).trans (h.fz j)⟩
theorem RdAt.grown(h:RdAt w rb s st)(a:w.grownBy w' row)(c:rb<w.heap.size)(b:∀k,row=some k->rb<k):RdAt w' rb s st:=
 h.same (a.block rb c (λe=>by have:=b rb e.symm;omega))
theorem yK{e:Nat}(h:w.ownsRow base e size v n xs)(c:Kept rb w w')(j:rb<base):w'.ownsRow base e size v n xs:=by
 refine⟨h.1, ?_⟩;rcases h.2 with b|⟨g,cap,cur,rfl,i,a,rest⟩
 ·exact .inl b
 ·refine .inr ⟨g,cap,cur,rfl,i, ?_,rest⟩
  rw[c.block g (cg.1 a).1 mw];exact a
def qu(ts:List (List UInt8)):List Value:=ts.map λt=>.string (BS t)
theorem TextsAt.of_row{e:Nat}(h:w.ownsRow base e 1 v ts.length (qu ts))(q:rb<base):TextsAt rb w v ts:=by
 have i:=h;rcases h.2 with⟨a,c⟩|⟨g,cap,cur,rfl,u,o,_⟩
 ·exact .inl ⟨cq c,a⟩
 ·refine .inr ⟨g,cap,rfl,mw,(cg.1 o).1,λj t b=>?_⟩
  have:=i.cells (g:=g) rfl j (.string (BS t)) (by simp[qu,b]);have m:(⟨g,0,none⟩:Addr).add j=⟨g,j,none⟩:=by unfold Addr.add;split<;>simp_all
  rwa [m]at this
theorem IsNode.texted{tv:Value}(c:IsNode rb w lv l)(g:rb<w.heap.size)(b:TextsAt rb w tv ts)(op place:Int)(str esc:mv):
  IsNode rb ((w.alloc (.cells #[lv] 67)).alloc (.cells #[.int .i64 op,.int .i64 place,.slice (some ⟨w.heap.size,0,none⟩) 1 1,.int .i64 0,.string (BS str),.string (BS esc),tv] 102))
   (.pointer (some ⟨w.heap.size+1,0,none⟩)) (.un ⟨op,place,0,str,esc,ts⟩ l):=by
 have a:Kept rb w ((w.alloc (.cells #[lv] 67)).alloc (.cells #[.int .i64 op,.int .i64 place,.slice (some ⟨w.heap.size,0,none⟩) 1 1,.int .i64 0,.string (BS str),.string (BS esc),tv] 102)):=((Kept.refl rb w).alloc _).alloc _;refine⟨w.heap.size+1,w.heap.size,lv,rfl,⟨mw,mx,mx,mx,mx,mx,mx,mx,tv,mx,b.kept a⟩,g,my, ?_,c.kept a⟩;rw[bt _ _ _ mx,cd _ _ _ _ rfl];rfl
theorem Fine.lt(h:Fine s st)(a:st.tk.kind≠0):st.place<(qg s st).place:=bg (h.long a) (jT s st)
theorem qgt(k p n:Int)(b:mu)(w:World):(Instr.field 91 (.agg #[.int .i64 k,.int .i64 p,.int .i64 n,.string b]) 3).run prog w=.ok (.string b) w:=nl
def zn(s:ByteArray)(l:Ast)(pl:Nat):Nat->List (List UInt8)->St->Res
 | 0,_,_=>.err 0 0
 | n+1,ts,st=>if st.tk.kind=28 then(if(qg s st).tk.kind=4 then zn s l pl n (ts++[(qg s st).tk.str]) (qg s (qg s st)) else .err 2 (qg s st).place)
   else if st.tk.kind=27 then .ok (.un ⟨21,pl,0,[],[],ts⟩ l) (qg s st) else .err 2 st.place
def xj(s:ByteArray)(l:Ast)(st:St):Res:=
 if(qg s st).tk.kind=26 then(if(qg s (qg s st)).tk.kind=4 then zn s l st.place (s.size+1) [(qg s (qg s st)).tk.str] (qg s (qg s (qg s st))) else .err 2 (qg s (qg s st)).place)
 else .err 2 (qg s st).place
theorem qbf(h:st.tk.kind=28)(a:(qg s st).tk.kind=4):zn s l pl (n+1) ts st=zn s l pl n (ts++[(qg s st).tk.str]) (qg s (qg s st)):=by rw[zn,bh h,bh a]
theorem qd9(h:st.tk.kind=28)(a:¬(qg s st).tk.kind=4):zn s l pl (n+1) ts st=.err 2 (qg s st).place:=by rw[zn,bh h,aj a]
theorem qda(h:¬st.tk.kind=28)(a:st.tk.kind=27):zn s l pl (n+1) ts st=.ok (.un ⟨21,pl,0,[],[],ts⟩ l) (qg s st):=by rw[zn,aj h,bh a]
theorem qbg(h:¬st.tk.kind=28)(a:¬st.tk.kind=27):zn s l pl (n+1) ts st=.err 2 st.place:=by rw[zn,aj h,aj a]
theorem vi9(w:World)(base:Nat)(a:base<=w.heap.size)(t:mv):(w.alloc (.cells #[.string (BS t)] 9)).ownsRow base 9 1 (.slice (some ⟨w.heap.size,0,none⟩) 1 1) [t].length (qu [t]):=
 ⟨rfl,.inr ⟨w.heap.size,1,#[.string (BS t)],rfl,a,heap_alloc_new w _,nt,nh,rfl,rfl⟩⟩
def vu(s:ByteArray)(f:St->Res)(o:Int)(st:St):Res:=if st.op=12 then .err 3 st.place else match f (ko s st) with
 | .ok x st'=>.ok (.un ⟨o,st.place,0,[],[],[]⟩ x) { st' with op:=st.op }
 | .err en pl=>.err en pl
theorem qrn(rb:Nat)(s:mu)(op:Nat)(F1:op<=12)(f:St->Res)(y:op<12->zh 301 rb s (op+1) f)(o:Int)(w:World)(st:St)(h:Ready rb s w st)(J:st.op=op)(L:st.tk.kind≠0):
  nz 330 #[.pointer (some ⟨rb,0,none⟩),.int .i64 o] w (Gives rb s w op st.place (vu s f o st)):=by
 have H:=qd h;have A0:=h.lt;have Y:=h.fine.le L;have P:=qd y;obtain⟨R,m⟩:∃R,vu s f o st=R:=⟨_,rfl⟩;rw[m];have N:=qd m;clear h y m;go_enter func330,ntmps330
 go_wp2_with(first|(go_at_call 199;refine(qea H mw).mono ?_;rintro e w1⟨c,⟨q,rfl,F⟩|⟨q,rfl⟩⟩;all_goals(have B9:=c.size;have G:¬w1.heap.size=rb:=mw;have T:¬rb=w1.heap.size:=mw;have i:=qd q;clear q);all_goals first|(have a:=qd (c.alloc (.cells (tkC st) 91));have A:=qd (F.allocd (.cells (tkC st) 91));clear F c;simp only[tkV])|(have a:=qd c;simp only[qU]))|(go_at_call 301;refine(P (by have:=q9 i;omega) _ (ko s st) A (by show st.op+1=op+1;omega)).mono ?_;rintro e g u;obtain⟨t,⟨x,M,Q,j,rfl,C,b,B,Z⟩|⟨en,pl,j,rfl⟩⟩:=u.split A;all_goals(replace a:=qd (a.trans t);have O:=qd j;obtain⟨S,D8⟩:=gG t G;have D:rb<g.heap.size:=mw;clear t u j);all_goals first|(have X:g.cell? ⟨rb,6,none⟩=some (.int .i64 ((op:Int)+1)):=(by rw[b.at'.c6,B];simp);have W:=b.at'.fz;have z:=qd b;have I:=qd C;clear b C B)|simp only[qU]))
 all_goals
  have E:=q9 N;unfold vu at E
  first
  | (rw[bh (q9 i)]at E;subst E;exact⟨rfl,q9 a,rfl⟩)
  | (
   rw[aj (q9 i),q9 O]at E;subst E
   first
   | exact⟨rfl,q9 a,rfl⟩
   | (
    go_ret;have U:(ko s st).place=(qg s st).place:=rfl;have K:=IsNode.one (I.kept ((Kept.refl rb g).setCell 6 (.int .i64 (op:Int)))) (by rw[size_setCell];exact D) o st.place
    exact⟨((a.setCell 6 _).alloc _).alloc _,_,rfl,by simpa using K,((z.at'.setOp st.op _ mw).allocd _ (by simpa using D)).allocd _ my,z.fine.op _,J,by show st.place<=M.place;omega⟩))
def ka(o:Int)(st:St)(num:Int)(str:List UInt8):Ast:=.leaf ⟨o,st.place,num,str,[],[]⟩
def vO(s:ByteArray)(fS fE:St->Res)(st:St):Res:=
 if st.tk.kind=22 then vu s fS 14 st else if st.tk.kind=23 then vu s fS 15 st else if st.tk.kind=26 then vi s fE st
 else if st.tk.kind=2 then .ok (ka 0 st 0 st.tk.str) (qg s st)
 else if st.tk.kind=3 then .ok (ka 1 st st.tk.num []) (qg s st)
 else if st.tk.kind=4 then .ok (ka 2 st 0 st.tk.str) (qg s st)
 else if st.tk.kind=8 then .ok (ka 3 st 0 []) (qg s st)
 else if st.tk.kind=9 then .ok (ka 4 st 0 []) (qg s st) else .err 2 st.place
theorem IsNode.leafed(a:rb<w.heap.size)(op place num:Int)(str:mv):
  IsNode rb (w.alloc (.cells #[.int .i64 op,.int .i64 place,.slice none 0 0,.int .i64 num,.string (BS str),.string ⟨#[]⟩,.slice none 0 0] 102))
   (.pointer (some ⟨w.heap.size,0,none⟩)) (.leaf ⟨op,place,num,str,[],[]⟩):=
 ⟨w.heap.size,rfl,⟨a,mx,mx,mx,mx,mx,mx,by simp[BS],.slice none 0 0,mx,.inl ⟨rfl,rfl⟩⟩⟩
theorem qjw(k p n:Int)(b:mu)(w:World):(Instr.field 91 (.agg #[.int .i64 k,.int .i64 p,.int .i64 n,.string b]) 1).run prog w=.ok (.int .i64 p) w:=nl
theorem qia(rb:Nat)(s:mu)(op:Nat)(P:op<=12)(fS fE:St->Res)(M:op<12->zh 301 rb s (op+1) fS)(N:op<12->zh 55 rb s (op+1) fE):zh 301 rb s op (vO s fS fE):=by
 intro w st h t;have H:=qd h;have S:=qd M;have U:=qd N;have L:=h.lt;have n0:¬w.heap.size=rb:=mw;have m:st.tk.kind≠0->st.place<=(qg s st).place:=h.fine.le;have O:=qd h.fine.next;obtain⟨c0,c1,c2,c3,c4,c5,c6,fz⟩:=h.at';clear h M N;obtain⟨K,u⟩:∃K,st.tk.kind=K:=⟨_,rfl⟩;obtain⟨R,a⟩:∃R,vO s fS fE st=R:=⟨_,rfl⟩;have E:∀c:Int,(st.tk.kind==c)=(K==c):=λc=>by rw[u]
 rw[a];unfold vO at a;rw[u]at a m;have o:=qd u;clear u;rcases(show(K=22\/K=23\/K=26)\/(K=2\/K=3\/K=4\/K=8)\/K=9\/(¬K=22/\¬K=23/\¬K=26/\¬K=2/\¬K=3/\¬K=4/\¬K=8/\¬K=9) by omega) with x|x|rfl|⟨G,F,D,C,B,A,z,y⟩
 ·rcases x with rfl|rfl|rfl
  all_goals
   simp only[Int.reduceEq,if_true,if_false]at a;subst a;go_enter func301,ntmps301
   go_wp2_with fail
   first|(go_at_call 330;refine(qrn rb s op P fS S _ _ st (H.allocd _) t (by rw[q9 o];decide)).mono ?_)|(go_at_call 331;refine(qk7 rb s op P fE U _ st (H.allocd _) t (by rw[q9 o];decide)).mono ?_)
   rintro e w' j;rcases j.cases with⟨v,rfl,j⟩|⟨en,pl,rfl,j⟩
   ·have T:=qd (j.from ((Kept.refl rb w).alloc _))
    clear j
    go_wp2_with fail
    go_ret;exact q9 T
   ·exact⟨rfl,j.from ((Kept.refl rb w).alloc _)⟩
 ·have J:=m mw
  clear m;rcases x with rfl|rfl|rfl|rfl
  all_goals
   simp only[Int.reduceEq,if_true,if_false]at a;subst a;go_enter func301,ntmps301
   go_wp2_with(go_at_call 54;refine(xV rb s st _ H.size H.fine.after (H.at'.allocd _ L) my (H.err.alloc _)).mono ?_;rintro e w1⟨rfl,g,b⟩;have X:w.heap.size<w1.heap.size:=(by have:=b.size;simp at this;omega);have q:∀i,w1.cell? ⟨w.heap.size,i,none⟩=(#[.int .i64 st.tk.kind,.int .i64 st.place,.int .i64 st.tk.num,.string (BS st.tk.str)]:Array Value)[i]?:=(λi=>((jG b).1 _ i mx n0).trans mx);have g:=qd g;have I:=qd (((Kept.refl rb w).alloc _).trans b);clear b)
   go_ret;exact⟨I.alloc _,_,rfl,IsNode.leafed mw _ _ _ _,g.allocd _ mw,q9 O,t,J⟩
 ·have J:=m nh
  simp only[Int.reduceEq,if_true,if_false]at a;subst a;clear m;have Q:=qjw;go_enter func301,ntmps301
  go_wp2_with(go_at_call 56;refine(qfu rb s st 9 _ H.size H.fine.after (H.at'.allocd _ L) my (H.err.alloc _) o).mono ?_;rintro e w1⟨rfl,g,b⟩;have X:w.heap.size<w1.heap.size:=(by have:=b.size;simp at this;omega);have g:=qd g;have I:=qd (((Kept.refl rb w).alloc _).trans b);clear b;simp only[tkV])
  go_ret;exact⟨I.alloc _,_,rfl,IsNode.leafed mw _ _ _ _,g.allocd _ mw,q9 O,t,J⟩
 ·rw[aj G,aj F,aj D,aj C,aj B,aj A,aj z,aj y]at a
  subst a;have e1:=ae.2 G;have e2:=ae.2 F;have e3:=ae.2 D;have e4:=ae.2 C;have e5:=ae.2 B;have Z:=ae.2 A;have Y:=ae.2 z;have W:=qd y;clear G F D C B A z y m;go_enter func301,ntmps301
  go_wp2_with(go_at_call 56;refine(qmc rb s st 9 _ (H.at'.allocd _ L) my (by rw[q9 o];exact q9 W)).mono ?_;rintro e w1⟨rfl,b⟩;simp only[qU])
  exact⟨rfl,((Kept.refl rb w).alloc _).trans b,rfl⟩
def jq(s:ByteArray)(fD fT:St->Res)(st:St):Res:=if st.tk.kind=7 then vu s fD 5 st else fT st
theorem qpz(rb:Nat)(s:mu)(op:Nat)(F1:op<=12)(f:St->Res)(A:op<12->zh 147 rb s (op+1) f)(w:World)(st:St)(h:Ready rb s w st)(L:st.op=op)(t:st.tk.kind=7):
  nz 147 #[.pointer (some ⟨rb,0,none⟩)] w (Gives rb s w op st.place (vu s f 5 st)):=by
 have H:=qd h;have A0:=h.lt;have M:st.tk.kind≠0:=by rw[t];decide
 have Z:(st.tk.kind != 7)=false:=by rw[t];rfl
 obtain⟨c0,c1,c2,c3,c4,c5,c6,fz⟩:=h.at';clear t;have S9:=h.fine.le M;have Q:=qd A;obtain⟨R,o⟩:∃R,vu s f 5 st=R:=⟨_,rfl⟩;rw[o];have O:=qd o;clear h A o;go_enter func147,ntmps147
 go_wp2_with(first|(go_at_call 199;refine(qea H mw).mono ?_;rintro e w1⟨g,⟨u,rfl,I⟩|⟨u,rfl⟩⟩;all_goals(have B9:=g.size;have J:¬w1.heap.size=rb:=mw;have X:¬rb=w1.heap.size:=mw;have j:=qd u;clear u);all_goals first|(have a:=qd (g.alloc (.cells (tkC st) 91));have C:=qd (I.allocd (.cells (tkC st) 91));clear I g;simp only[tkV])|(have a:=qd g;simp only[qU]))|(go_at_call 147;refine(Q (by have:=q9 j;omega) _ (ko s st) C (by show st.op+1=op+1;omega)).mono ?_;rintro e i z;obtain⟨y,⟨x,N,T,m,rfl,F,c,D,N0⟩|⟨en,pl,m,rfl⟩⟩:=z.split C;all_goals(replace a:=qd (a.trans y);have P:=qd m;obtain⟨W,D8⟩:=gG y J;have G:rb<i.heap.size:=mw;clear y z m);all_goals first|(have d6:i.cell? ⟨rb,6,none⟩=some (.int .i64 ((op:Int)+1)):=(by rw[c.at'.c6,D];simp);have dz:=c.at'.fz;have B:=qd c;have K:=qd F;clear c F D)|simp only[qU])|(go_at_call 200;refine(pR rb x _ _ _ (K.kept ((Kept.refl rb i).setCell 6 _)) (by rw[size_setCell];exact G)).mono ?_;rintro e S⟨⟨U,rfl,q⟩,b⟩;have q:=qd q;have b:=qd b))
 all_goals
  have E:=q9 O;unfold vu at E
  first
  | (rw[bh (q9 j)]at E;subst E;exact⟨rfl,q9 a,rfl⟩)
  | (
   rw[aj (q9 j),q9 P]at E;subst E
   first
   | exact⟨rfl,q9 a,rfl⟩
   | (
    go_ret;have Y:(ko s st).place=(qg s st).place:=rfl
    exact⟨(a.setCell 6 _).trans (Kept.of_below b),_,rfl,q9 q,(B.at'.setOp st.op _ mw).below b (by simpa using G),B.fine.op _,L,by show st.place<=N.place;omega⟩))
theorem qgl(rb:Nat)(s:mu)(op:Nat)(p:op<=12)(b i:St->Res)(j:op<12->zh 147 rb s (op+1) b)(g:zh 198 rb s op i):zh 147 rb s op (jq s b i):=by
 intro w st h c
 by_cases h7:st.tk.kind=7
 ·rw[jq,bh h7]
  exact qpz rb s op p b j w st h c h7
 ·rw[jq,aj h7]
  have q:(st.tk.kind != 7)=true:=by simpa using h7
  obtain⟨c0,z,y,x,c4,u,t,fz⟩:=h.at';have H:=qd h;have m:=qd g;clear h g h7;go_enter func147,ntmps147
  go_wp2_with fail
  refine(m _ st H c).mono ?_;rintro e w' a;rcases a.cases with⟨v,rfl,a⟩|⟨en,pl,rfl,a⟩
  ·have o:=qd a
   clear a
   go_wp2_with fail
   go_ret;exact q9 o
  ·exact⟨rfl,a⟩
def qva(st:St)(l:Ast):Ast:=.un ⟨23,st.place,0,[],[],[]⟩ l
def jd(s:ByteArray)(l:Ast)(st:St):Res:=
 if(qg s st).tk.kind=7 then(if(qg s (qg s st)).tk.kind=15 then .ok (.un ⟨5,st.place,0,[],[],[]⟩ (qva st l)) (qg s (qg s (qg s st))) else .err 2 (qg s (qg s st)).place)
 else if(qg s st).tk.kind=15 then .ok (qva st l) (qg s (qg s st)) else .err 2 (qg s st).place
theorem qqe(rb:Nat)(s:mu)(op:Nat)(l:Ast)(lv:Value)(w:World)(st:St)(h:Ready rb s w st)(F:st.op=op)(t:IsNode rb w lv l)(x:st.tk.kind=14):
  nz 242 #[.pointer (some ⟨rb,0,none⟩),lv] w (Gives rb s w op st.place (jd s l st)):=by
 have H:=qd h;have A0:=h.lt;have OV:=h.fine.le (by rw[x];decide);have z:=qd x;obtain⟨lb,rfl⟩:=t.ptr;have J:=qd t;obtain⟨R,u⟩:∃R,jd s l st=R:=⟨_,rfl⟩;rw[u];have T:=qd u;clear h t x u;go_enter func242,ntmps242
 go_wp2_with(first|(go_at_call_of 56 (Value.int IntKind.i64 14);refine(qfv H z).mono ?_;rintro e w1⟨rfl,M,B⟩;have B9:=B.size;have D:¬w1.heap.size=rb:=mw;have I:=qd (M.allocd (.cells (tkC st) 91));have S:=qd (B.alloc (.cells (tkC st) 91));clear M B;simp only[tkV])|(go_at_call 267;refine(qma I 7).mono ?_;rintro e Y⟨b,J1,rfl,A,L,a⟩;obtain⟨N,W⟩:=gG A D;have Q:=qd (S.trans A);have G:=qd L;have U:=qd a;clear L A a)|(go_at_call_of 56 (Value.int IntKind.i64 15);refine(yj G 15).mono ?_;rintro e C⟨o,⟨c,rfl,K⟩|⟨c,rfl⟩⟩;all_goals(have S4:w1.heap.size<C.heap.size:=(by have:=o.size;omega);have q3:∀i,C.cell? ⟨w1.heap.size,i,none⟩=(tkC st)[i]?:=(λi=>((jG o).1 _ i W D).trans (N i));have g:=qd (Q.trans o);have y:=qd c;clear o c;first|(have j:=qd K;clear K;simp only[tkV])|simp only[qU]))|(go_at_call 200;refine(pR rb (qva st l) _ _ _ (IsNode.one (J.kept g) mw 23 st.place) my).mono ?_;rintro e X⟨⟨Z,rfl,q⟩,m⟩;have q:=qd q;have m:=qd m))
 all_goals
  have E:=q9 T;have c:=q9 y;have P:=(q9 I).fine;have O:=(q9 G).fine;rw[jd]at E;obtain⟨rfl,a,rfl⟩|⟨rfl,a,rfl⟩:=q9 U
  all_goals
   first|rw[bh a]at E|rw[aj a]at E
   first|rw[bh c]at E|rw[aj c]at E
   subst E
   first
   | contradiction
   | exact⟨rfl,q9 g,rfl⟩
   | (
    go_ret;have:=O.le mw
    first
    | (
     have:=P.le mw
     exact⟨((g.alloc _).alloc _).trans (Kept.of_below m),_,rfl,q9 q,((j.at'.allocd _ mw).allocd _ my).below m my,j.fine,F,mw⟩)
    | exact⟨(g.alloc _).alloc _,_,rfl,IsNode.one (J.kept g) mw 23 st.place,(j.at'.allocd _ mw).allocd _ my,j.fine,F,mw⟩)
def qQ(s:ByteArray)(f:St->Res)(l:Ast)(st:St):Res:=if st.tk.kind=10 then(match f (qg s st) with
  | .ok lo A6=>if A6.tk.kind=5 then(match f (qg s A6) with
    | .ok hi J1=>.ok (.tri ⟨20,st.place,0,[],[],[]⟩ l lo hi) J1
    | .err en pl=>.err en pl) else .err 2 A6.place
  | .err en pl=>.err en pl) else .err 2 st.place
theorem IsNode.three{x y z:Ast}{c b a:Value}(m:IsNode rb w c x)(j:IsNode rb w b y)(i:IsNode rb w a z)(o:rb<w.heap.size)(op place:Int):
  IsNode rb ((w.alloc (.cells #[c,b,a] 67)).alloc (.cells #[.int .i64 op,.int .i64 place,.slice (some ⟨w.heap.size,0,none⟩) 3 3,.int .i64 0,.string ⟨#[]⟩,.string ⟨#[]⟩,.slice none 0 0] 102))
   (.pointer (some ⟨w.heap.size+1,0,none⟩)) (.tri ⟨op,place,0,[],[],[]⟩ x y z):=by
 have g:Kept rb w ((w.alloc (.cells #[c,b,a] 67)).alloc (.cells #[.int .i64 op,.int .i64 place,.slice (some ⟨w.heap.size,0,none⟩) 3 3,.int .i64 0,.string ⟨#[]⟩,.string ⟨#[]⟩,.slice none 0 0] 102)):=((Kept.refl rb w).alloc _).alloc _;refine⟨w.heap.size+1,w.heap.size,c,b,a,rfl,⟨mw,mx,mx,mx,mx,mx,by simp[BS],by simp[BS],.slice none 0 0,mx,.inl ⟨rfl,rfl⟩⟩,o,my, ?_, ?_, ?_,m.kept g,j.kept g,i.kept g⟩
 ·rw[bt _ _ _ mx,cd _ _ _ _ rfl];rfl
 ·rw[bt _ _ _ mx,cd _ _ _ _ rfl];rfl
 ·rw[bt _ _ _ mx,cd _ _ _ _ rfl];rfl
theorem qj4(rb:Nat)(s:mu)(op:Nat)(f:St->Res)(K:zh 241 rb s op f)(l:Ast)(lv:Value)(w:World)(st:St)(h:Ready rb s w st)(ho:st.op=op)(A:IsNode rb w lv l):
  nz 270 #[.pointer (some ⟨rb,0,none⟩),lv] w (Gives rb s w op st.place (qQ s f l st)):=by
 have H:=qd h;have P:=qd K;have A0:=h.lt;obtain⟨lb,rfl⟩:=A.ptr;have HL:=qd A;obtain⟨R,B⟩:∃R,qQ s f l st=R:=⟨_,rfl⟩;rw[B];have HR:=qd B;clear h A K B;go_enter func270,ntmps270
 go_wp2_with(first|(go_at_call_of 56 (Value.int IntKind.i64 10);refine(yj H 10).mono ?_;rintro e w1⟨u,⟨o,rfl,T⟩|⟨o,rfl⟩⟩;all_goals(have B9:=u.size;have y:¬w1.heap.size=rb:=mw;have C:=qd o;clear o);all_goals first|(have a:=qd (u.alloc (.cells (tkC st) 91));have N:=qd (T.allocd (.cells (tkC st) 91));clear T u;simp only[tkV])|(have a:=qd u;simp only[qU]))|(go_at_call 241;refine(P _ (qg s st) N ho).mono ?_;rintro e w2 J;obtain⟨G,⟨lo,U,vb,z,rfl,O,S,M6,N0⟩|⟨en,pl,z,rfl⟩⟩:=J.split N;all_goals(replace a:=qd (a.trans G);have HQ:=qd z;obtain⟨Y,D8⟩:=gG G y;clear G J z);all_goals first|(have L:=qd S;have Z:=qd O;clear S O)|simp only[qU])|(go_at_call_of 56 (Value.int IntKind.i64 5);refine(yj L 5).mono ?_;rintro e i⟨g,⟨m,rfl,Q⟩|⟨m,rfl⟩⟩;all_goals(replace a:=qd (a.trans g);have t:=qd m;have M:w1.heap.size<i.heap.size:=(by have:=g.size;omega);have X:Xc i w1.heap.size 1 (.int .i64 st.place):=((jG g).1 _ 1 D8 y).trans (Y 1);clear m);all_goals first|(have LS:=qd (Z.kept g);have bX:=qd Q.drew;clear Q g;simp only[tkV])|simp only[qU]))
 all_goals
  have E:=q9 HR;unfold qQ at E
  first
  | (rw[aj (q9 C)]at E;subst E;exact⟨rfl,q9 a,rfl⟩)
  | (
   rw[bh (q9 C),q9 HQ]at E
   first
   | (
    have _q:=t
    dsimp only at E
    first
    | (rw[aj (q9 t)]at E;subst E;exact⟨rfl,q9 a,rfl⟩)
    | (
     rw[bh (q9 t)]at E;have q:=qd (P _ (qg s U) bX M6);have o:=(q9 H).fine.le (by rw[q9 C];decide);have m:=(q9 L).fine.le (by rw[q9 t];decide)
     cases dS:f (qg s U) with
     | err en pl=>
      rw[dS]at E q;subst E;clear dS
      go_region_with(go_at_call 241;refine q.mono ?_;rintro e c⟨b,rfl⟩;refine vkm (w:=c) ⟨rfl,a.trans ((Kept.refl rb i).drew.trans b),rfl⟩ ?_)
      all_goals trivial
     | ok hi J1=>
      rw[dS]at E q;subst E;clear dS
      go_region_held3 (λw'=>Xc w' w1.heap.size 1 (.int .i64 st.place)) (go_keep) (first|(go_at_call 241;refine q.mono ?_;rintro e c⟨b,v4,rfl,j,F,x,W,bR⟩;obtain⟨vc,rfl⟩:=j.ptr;have q4:Xc c w1.heap.size 1 (.int .i64 st.place):=((jG b).1 _ 1 M y).trans X;have VV:w1.heap.size<c.heap.size:=bg M b.size;have b:=qd b;have j:=qd j;have F:=qd F;have x:=qd x))
      go_wp2_with fail
      go_ret;have b:=(Kept.refl rb i).drew.trans b;have D:=(q9 a).trans b;have I:rb<c.heap.size:=bg A0 D.size
      exact⟨(D.alloc _).alloc _,_,rfl,IsNode.three (HL.kept D) (LS.kept b) j I 20 st.place,(F.allocd _ I).allocd _ my,q9 x,W,mw⟩))
   | (subst E;exact⟨rfl,q9 a,rfl⟩))
def qga(K:Nat)(rb:Nat)(s:ByteArray)(op:Nat)(k:Int)(g:Ast->St->Res):Prop:=
 ∀(w:World) (st:St) (l:Ast) (lv:Value),Ready rb s w st->st.op=op->IsNode rb w lv l->st.tk.kind=k->Calls prog K #[.pointer (some ⟨rb,0,none⟩),lv] w (Gives rb s w op st.place (g l st))
def vh(s:ByteArray)(f:St->Res)(gI gL:Ast->St->Res)(bare:Bool)(l:Ast)(st:St):Res:=
 if st.tk.kind=11/\bare=true then gI l st else if st.tk.kind=12/\bare=true then gL l st else qQ s f l st
theorem qbp(rb:Nat)(s:mu)(op:Nat)(f:St->Res)(j i:Ast->St->Res)(q:zh 241 rb s op f)(u:qga 268 rb s op 11 j)(t:qga 269 rb s op 12 i)
  (bare:Bool) (w:World) (st:St) (l:Ast) (lv:Value) (h:Ready rb s w st) (m:st.op=op) (g:IsNode rb w lv l) :
  nz 243 #[.pointer (some ⟨rb,0,none⟩),lv,.bool bare] w (Gives rb s w op st.place (vh s f j i bare l st)):=by
 obtain⟨c0,H,G,F,c4,D,C,fz⟩:=h.at';have BET:=qd (qj4 rb s op f q l lv w st h m g);have INN:Hid (st.tk.kind=11->nz 268 #[.pointer (some ⟨rb,0,none⟩),lv] w (Gives rb s w op st.place (j l st))):=qd λo=>u w st l lv h m g o
 have LIK:Hid (st.tk.kind=12->nz 269 #[.pointer (some ⟨rb,0,none⟩),lv] w (Gives rb s w op st.place (i l st))):=qd λo=>t w st l lv h m g o
 clear h g q u t;obtain⟨R,a⟩:∃R,vh s f j i bare l st=R:=⟨_,rfl⟩;obtain⟨K,p⟩:∃K,st.tk.kind=K:=⟨_,rfl⟩;have E:∀c:Int,(st.tk.kind==c)=(K==c):=λc=>by rw[p]
 rw[a];unfold vh at a;rw[p]at a INN LIK;clear p;rcases(show K=11\/K=12\/¬K=11/\¬K=12 by omega) with rfl|rfl|⟨y,x⟩<;>cases bare
 all_goals
  try have B:=ae.2 y
  try have A:=ae.2 x
  try rw[bh ⟨rfl,rfl⟩]at a
  try rw[aj (by simp[*])]at a
  try rw[bh ⟨rfl,rfl⟩]at a
  try rw[aj (by simp[*])]at a
  subst a
  try clear y x
  go_enter func243,ntmps243
  go_wp2_with((first|(go_at_call 270;refine BET.mono ?_)|(go_at_call 268;refine(INN rfl).mono ?_)|(go_at_call 269;refine(LIK rfl).mono ?_));rintro e w' b;rcases b.cases with⟨v,rfl,b⟩|⟨en,pl,rfl,b⟩;rotate_left;(exact⟨rfl,b⟩);have z:=qd b;clear b)
  go_ret;exact q9 z
theorem qbj:(prog.info? 9).map (λi=>(i.zero,i.size,i.bytes))=some (some (.string ⟨#[]⟩),1,16):=nl
theorem qf3{e:Nat}(h:w.ownsRow base e size v n xs):∃a m c,v=.slice a m c:=by
 rcases h.2 with⟨rfl,_⟩|⟨g,cap,cur,rfl,_⟩
 ·exact⟨_,_,_,rfl⟩
 ·exact⟨_,_,_,rfl⟩
theorem vg7{B:Nat}{wr g a:World}{b:St}{v':Value}{t:mv}{o:Obj}{pv:Value}
  (A:a.ownsRow (B+1) 9 1 v' (ts.length+1) (qu ts++[.string (BS t)])) (i:(g.alloc o).grownBy a v.ownBlock) (C:wr.ownsRow (B+1) 9 1 v ts.length (qu ts))
  (q:RdAt g rb s b) (D:rb<g.heap.size) (u:Kept rb w wr) (j:Kept rb wr g) (y:wr.cell? ⟨B,1,none⟩=some pv) (z:B<wr.heap.size) (G:rb<B) (F:w.heap.size<=B) :
  a.ownsRow (B+1) 9 1 v' (ts++[t]).length (qu (ts++[t]))/\RdAt a rb s b/\Kept rb w a/\a.cell? ⟨B,1,none⟩=some pv/\B<a.heap.size:=by
 have m:∀k,v.ownBlock=some k->B+1<=k:=λk c=>(C.lt k c).1
 have E:=j.size;have x:=i.size;simp at x;refine⟨by rw[bu,qu,dt];exact A,(q.allocd o D).grown i my (λk c=>by have:=m k c;omega),((u.trans j).alloc o).grown i (λk c=>by have:=m k c;omega), ?_,mw⟩;refine i.cell ?_ (λe=>by have:=m B e.symm;omega);rw[bt _ _ _ mw];exact((jG j).1 B 1 z mw).trans y
theorem vaj(rb:Nat)(s:mu)(op:Nat)(hs:s.size<=200):qga 268 rb s op 11 (xj s):=by
 intro w st l lv h ho I O;have H:=qd h;have A0:=h.lt;have OV:=h.fine.lt (by rw[O];decide);have T:=h.fine.next;have S:=qd O;obtain⟨lb,rfl⟩:=I.ptr;have HL:=qd I;have K9:(qg s st).tk.kind=26->(qg s st).place<(qg s (qg s st)).place:=λh=>T.lt (by rw[h];decide)
 have lA:(qg s (qg s st)).tk.kind=4->(qg s (qg s st)).place<(qg s (qg s (qg s st))).place:=λh=>T.next.lt (by rw[h];decide)
 have HF:=qd (And.intro K9 lA);obtain⟨i0,hi,F2,mJ,mI⟩:=info_parts qbj;obtain⟨R,j⟩:∃r,xj s l st=r:=⟨_,rfl⟩;rw[j];unfold xj at j;have u:=qd j;have FS:=λb=>qgt (qg s (qg s st)).tk.kind (qg s (qg s st)).place (qg s (qg s st)).tk.num b
 clear h I O j T K9 lA;go_enter func268,ntmps268
 go_wp2_with(first|(go_at_call_of 56 (Value.int IntKind.i64 11);refine(qfv H S).mono ?_;rintro e w1⟨rfl,A8,W⟩;have B9:=W.size;have F:¬w1.heap.size=rb:=mw;have Q7:=qd (A8.allocd (.cells (tkC st) 91));have g:=qd (W.alloc (.cells (tkC st) 91));clear A8 W;simp only[tkV])|(go_at_call_of 56 (Value.int IntKind.i64 26);refine(yj Q7 26).mono ?_;rintro e w2⟨U,⟨K,rfl,A9⟩|⟨K,rfl⟩⟩;all_goals(obtain⟨q2,D8⟩:=gG U F;replace g:=qd (g.trans U);have z:=qd K;clear U K);all_goals first|(have Z9:=qd A9;clear A9;simp only[tkV])|simp only[qU])|(go_at_call_of 56 (Value.int IntKind.i64 4);refine(yj Z9 4).mono ?_;rintro e X⟨B,⟨J,rfl,D9⟩|⟨J,rfl⟩⟩;all_goals(have S4:w1.heap.size<X.heap.size:=(by have:=B.size;omega);have q3:X.cell? ⟨w1.heap.size,1,none⟩=some (.int .i64 st.place):=((jG B).1 _ 1 D8 F).trans (q2 1);replace g:=qd (g.trans B);have Q:=qd J;clear B J);all_goals first|(have bX:=qd D9;clear D9;simp only[tkV])|simp only[qU]))
 rotate_left
 iterate 2
  have E:=q9 u
  first
  | (rw[aj (q9 z)]at E;subst E;exact⟨rfl,q9 g,rfl⟩)
  | (rw[bh (q9 z),aj (q9 Q)]at E;subst E;exact⟨rfl,q9 g,rfl⟩)
 have E:=q9 u;rw[bh (q9 z),bh (q9 Q)]at E;have hle2:=(q9 HF).1 z;have hle3:=(q9 HF).2 Q;replace u:=qd E;clear E
 go_loopw [6] (λv wr=>∃(n:Nat) (ts:List mv) (a:St),Hid (R=zn s l st.place n ts a)/\s.size<n+a.place/\Hid (wr.ownsRow (w1.heap.size+1) 9 1 v ts.length (qu ts))/\Hid (Ready rb s wr a)/\a.op=op/\ts.length<=a.place/\st.place<=a.place/\Hid (Kept rb w wr)/\wr.cell? ⟨w1.heap.size,1,none⟩=some (.int .i64 st.place)/\w1.heap.size<wr.heap.size) (λv wr=>s.size+1 - vkp wr rb)
 case atStart=>exact⟨s.size+1,_,_,qd u.symm,mw,qd (vi9 _ _ mw _),qd (bX.allocd _),ho,my,mw,qd (g.alloc _),by rw[bt _ _ _ (by first|omega|(simp;omega))];exact q3,my⟩
 case round=>
  clear g u Q7 Z9 bX FS;obtain⟨n,ts,a,j,hn,y,A,iQ,V2,K0,g,eX,LW⟩:=hrel;have P:=(q9 A).fine;have LD:=P.place;obtain⟨m,rfl⟩:∃m,n=m+1:=⟨n - 1,mw⟩;have dD:=(q9 A).lt;have SK:=qd (qf4 A.at');have aJ:rb<w1.heap.size+1:=mw;have x:=qd P;have FS:=λb=>qgt (qg s a).tk.kind (qg s a).place (qg s a).tk.num b
  clear P;obtain⟨va,vn,vc,rfl⟩:=qf3 y
  go_wp2_with(first|(go_at_call 267;refine(qma A 28).mono ?_;rintro e w4⟨b,ZZ,rfl,H6,L5,c⟩;have EH:=qd c;have aS:=qd H6;have Y:=qd L5;clear c L5 H6)|(go_at_call_of 56 (Value.int IntKind.i64 4);refine(yj Y 4).mono ?_;rintro e C⟨t,⟨N,rfl,q⟩|⟨N,rfl⟩⟩;all_goals(have i:=qd (aS.trans t);have M:=qd N;clear t N);all_goals first|(obtain⟨_,c,O9⟩:b=true/\a.tk.kind=28/\ZZ=qg s a:=(by obtain h|⟨rfl,_⟩:=q9 EH;exact h;contradiction);subst O9;have tH:=(q9 i).size;have fH:=yK y i aJ;have HX:=qd (And.intro c (x.lt (by rw[c];decide)));have o:=qd q;clear q c;simp only[tkV])|simp only[qU])|(at_builtin;refine wpList_append_own _ rfl _ _ 62 rfl (w1.heap.size+1) 9 i0 (.string ⟨#[]⟩) 1 16 underlying62 hi F2 mJ mI rfl nh _ _ _ rfl (fH.alloc _) ⟨C.heap.size,0,none⟩ 1 1 [.string (BS (qg s a).tk.str)] rfl rfl ?c1 ?c2 ?c3 ?c4 ?c5 ?_)|(go_at_call_of 56 (Value.int IntKind.i64 27);refine(yj Y 27).mono ?_;rintro e C⟨t,⟨L,rfl,q⟩|⟨L,rfl⟩⟩;all_goals(have i:=qd (aS.trans t);have D:=qd L;have q5:C.cell? ⟨w1.heap.size,1,none⟩=some (.int .i64 st.place):=((jG i).1 _ 1 LW F).trans eX;have tH:=(q9 i).size;clear t L);all_goals first|(have o:=qd q;clear q;simp only[tkV])|simp only[qU]))
  case c2=>rfl
  case c3=>unfold maxLen;omega
  case c4=>omega
  case c5=>omega
  ·intro v' w6 F3 A4 _
   have G:=vg7 F3 A4 y o.at' o.lt g i eX LW mw mw;clear F3 A4 y fH;have BJ:=qd (qf4 G.2.1);have G:=qd G;obtain⟨c,cJ⟩:=q9 HX;have sF:=(q9 x).next.lt (by rw[q9 M];decide);have OW:=(q9 x).next.next.place;have r9:Hid (R=zn s l st.place m (ts++[(qg s a).tk.str]) (qg s (qg s a))):=qd (by rw[q9 j,qbf c (q9 M)]);clear c
   go_wp2_with fail
   go_roundw
   case rel=>exact⟨m,_,_,r9,mw,qd G.1,qd (H.kept G.2.2.1 G.2.1 x.next.next),iQ,my,mw,qd G.2.2.1,G.2.2.2.1,G.2.2.2.2⟩
   case measure=>rw[q9 SK,q9 BJ];omega
  all_goals
   have E:=q9 j;obtain⟨rfl,c,rfl⟩|⟨rfl,c,rfl⟩:=q9 EH
   all_goals first
   | contradiction
   | (rw[qd9 c (q9 M)]at E;subst E;exact⟨rfl,g.trans i,rfl⟩)
   | (rw[qbg c (q9 D)]at E;subst E;exact⟨rfl,g.trans i,rfl⟩)
   | (
    rw[qda c (q9 D)]at E;subst E;go_ret;have DB:=(q9 x).lt (by rw[q9 D];decide);have Z:=(q9 o).lt;have XN:=(q9 g).trans i
    exact⟨(XN.alloc _).alloc _,_,rfl,IsNode.texted (HL.kept XN) Z ((TextsAt.of_row y aJ).kept i) 21 st.place [] [],(o.at'.allocd _ Z).allocd _ my,o.fine,iQ,mw⟩)
def opA:Ast->Int
 | .leaf p=>p.op
 | .un p _=>p.op
 | .bin p _ _=>p.op
 | .tri p _ _ _=>p.op
theorem IsNode.opAt{t:Ast}(h:IsNode rb w v t):∃b,v=.pointer (some ⟨b,0,none⟩)/\Xc w b 0 (.int .i64 (opA t)):=by
 cases t with
 | leaf p=>obtain⟨b,a,h⟩:=h;exact⟨b,a,h.c0⟩
 | un p x=>obtain⟨b,g,c,a,h,_⟩:=h;exact⟨b,a,h.c0⟩
 | bin p x y=>obtain⟨b,g,c,i,a,h,_⟩:=h;exact⟨b,a,h.c0⟩
 | tri p x y z=>obtain⟨b,g,c,i,j,a,h,_⟩:=h;exact⟨b,a,h.c0⟩
def pM(st:St)(l:Ast):Bool:=st.tk.kind==2&&opA l==0
def jO(s:ByteArray)(f:St->Res)(gI gL:Ast->St->Res)(bare:Bool)(l:Ast)(st:St):Res:=
 if st.tk.kind=16\/st.tk.kind=17\/st.tk.kind=18\/st.tk.kind=19\/st.tk.kind=20\/st.tk.kind=21 then jy s f st l
 else if st.tk.kind=14 then(if bare=true then jd s l st else .ok l st)
 else if st.tk.kind=7 then(match vh s f gI gL bare l (qg s st) with
  | .ok t st'=>.ok (.un ⟨5,st.place,0,[],[],[]⟩ t) st'
  | .err en pl=>.err en pl)
 else if st.tk.kind=10\/st.tk.kind=11\/st.tk.kind=12 then vh s f gI gL bare l st
 else .ok l st
def jP(s:ByteArray)(f:St->Res)(gI gL:Ast->St->Res)(st:St):Res:=match f st with
 | .ok l st'=>jO s f gI gL (pM st l) l st'
 | .err en pl=>.err en pl
theorem Gives.from'{op b a:Nat}(h:Gives rb s w1 op b r e w')(g:Kept rb w w1)(c:a<=b):Gives rb s w op a r e w':=by
 refine⟨g.trans h.1, ?_⟩
 cases r with
 | ok t st=>obtain⟨_,v,q,p,o,m,j,i⟩:=h;exact⟨v,q,p,o,m,j,bs c i⟩
 | err en pl=>exact h.2
theorem vgk{x:Int}(a:x=k):(x==16)=(k==16)/\(x==17)=(k==17)/\(x==18)=(k==18)/\(x==19)=(k==19)/\(x==20)=(k==20)/\(x==21)=(k==21)/\(x==14)=(k==14)/\(x==7)=(k==7)/\(x==10)=(k==10)/\(x==11)=(k==11)/\(x==12)=(k==12):=by subst a;exact⟨rfl,rfl,rfl,rfl,rfl,rfl,rfl,rfl,rfl,rfl,rfl⟩
theorem vi7(s:mu)(f:St->Res)(c a:Ast->St->Res)(l:Ast)(st:St):
  ((st.tk.kind=16\/st.tk.kind=17\/st.tk.kind=18\/st.tk.kind=19\/st.tk.kind=20\/st.tk.kind=21)/\∀b,jO s f c a b l st=jy s f st l) \/
  (st.tk.kind=14/\∀b,jO s f c a b l st=if b=true then jd s l st else .ok l st) \/
  (st.tk.kind=7/\∀b,jO s f c a b l st=(match vh s f c a b l (qg s st) with|.ok t st'=>.ok (.un ⟨5,st.place,0,[],[],[]⟩ t) st'|.err en pl=>.err en pl)) \/
  ((st.tk.kind=10\/st.tk.kind=11\/st.tk.kind=12)/\∀b,jO s f c a b l st=vh s f c a b l st) \/
  (((st.tk.kind==16)=false/\(st.tk.kind==17)=false/\(st.tk.kind==18)=false/\(st.tk.kind==19)=false/\(st.tk.kind==20)=false/\(st.tk.kind==21)=false/\(st.tk.kind==14)=false/\(st.tk.kind==7)=false/\(st.tk.kind==10)=false/\(st.tk.kind==11)=false/\(st.tk.kind==12)=false)/\∀b,jO s f c a b l st=.ok l st):=by
 unfold jO
 by_cases h1:st.tk.kind=16\/st.tk.kind=17\/st.tk.kind=18\/st.tk.kind=19\/st.tk.kind=20\/st.tk.kind=21
 ·exact .inl ⟨h1,λb=>bh h1⟩
 by_cases h2:st.tk.kind=14
 ·exact .inr (.inl ⟨h2,λb=>by rw[aj h1,bh h2]⟩)
 by_cases h3:st.tk.kind=7
 ·exact .inr (.inr (.inl ⟨h3,λb=>by rw[aj h1,aj h2,bh h3]⟩))
 by_cases h4:st.tk.kind=10\/st.tk.kind=11\/st.tk.kind=12
 ·exact .inr (.inr (.inr (.inl ⟨h4,λb=>by rw[aj h1,aj h2,aj h3,bh h4]⟩)))
 refine .inr (.inr (.inr (.inr ⟨?_,λb=>by rw[aj h1,aj h2,aj h3,aj h4]⟩)));simp only[ae]
 (repeat' apply And.intro)<;>(intro;omega)
structure TT(rb:Nat)(s:ByteArray)(op:Nat)(f:St->Res)(gI gL:Ast->St->Res)(w:World)(st:St)(l:Ast)(A6:St):Prop where
 af:zh 241 rb s op f
 ai:qga 268 rb s op 11 gI
 al:qga 269 rb s op 12 gL
 ah:Ready rb s w st
 ao:st.op=op
 ar:f st=.ok l A6
theorem qxt{op:Nat}{t o:Ast->St->Res}{i:St}(T:TT rb s op f t o w st l i):
  nz 198 #[.pointer (some ⟨rb,0,none⟩)] w (Gives rb s w op st.place (jO s f t o (pM st l) l i)):=by
 obtain⟨S,W,U,h,ho,D4⟩:=T;have H:=qd h;have B:=qd S;have HI:=qd W;have JL:=qd U;have J5:=qd D4;have CU:∀(fn:Fn) (first cap:Array Value) (w:World),(Instr.makeFunc fn first cap).run prog w=.ok (.func fn first cap) w:=λ_ _ _ _=>rfl
 obtain⟨c0,c1,c2,c3,c4,c5,c6,fz⟩:=h.at';have A0:=h.lt;clear h S W U D4;obtain⟨J,F7⟩:∃q,(st.tk.kind==2)=q:=⟨_,rfl⟩;obtain⟨I,A1⟩:∃q,(opA l==0)=q:=⟨_,rfl⟩;obtain⟨r,A⟩:∃r,vh s f t o (J&&I) l (qg s i)=r:=⟨_,rfl⟩;rw[show pM st l=(J&&I) by unfold pM;rw[F7,A1]];cases J<;>cases I<;>simp only[Bool.and_self,ig,fj]at A ⊢
 all_goals
  rcases vi7 s f t o l i with⟨c|c|c|c|c|c,m⟩|⟨c,m⟩|⟨c,m⟩|⟨c|c|c,m⟩|⟨c,m⟩
 all_goals
  rw[m]
  first|(rw[A];have N:=qd A;cases r)|(simp only[cu,if_true,if_false])|skip
 all_goals
  clear m A;have G:=qd c
  first
   | (
    have E:=vgk c;simp only[Int.reduceBEq]at E
    obtain⟨DU,DS,IQ,IP,uK,IN,fP,e7,fQ,lO,lN⟩:=E)
   | obtain⟨DU,DS,IQ,IP,uK,IN,fP,e7,fQ,lO,lN⟩:=c
  try clear c
  go_enter func198,ntmps198
  go_wp2_with(first|(go_at_call 241;refine(B _ st H ho).mono ?_;rintro e w1⟨Q,X⟩;rw[q9 J5]at X;obtain⟨v1,rfl,j,A8,C,x,y⟩:=X;obtain⟨b,rfl,cb⟩:=j.opAt;obtain⟨d0,d1,d2,d3,d4,d5,Z,dz⟩:=A8;have g:=qd (H.kept Q ⟨d0,d1,d2,d3,d4,d5,Z,dz⟩ C);have j:=qd j;have u:=qd Q;clear Q d0 d3 d4 d5 Z)|(go_at_call 146;refine(qdb nh rb s op f B i l _ _ g x j).mono ?_;rintro e w' a;have a:=a.from' u (bs y (Nat.le_of_lt (C.long (by rw[q9 G];decide))));rcases a.cases with⟨v,rfl,a⟩|⟨en,pl,rfl,a⟩;rotate_left;(exact⟨rfl,a⟩);have O:=qd a;clear a)|(go_at_call 242;refine(qqe rb s op l _ _ i g x j G).mono ?_;rintro e w' a;have a:=a.from' u y;rcases a.cases with⟨v,rfl,a⟩|⟨en,pl,rfl,a⟩;rotate_left;(exact⟨rfl,a⟩);have O:=qd a;clear a)|(go_at_call 54;refine(xV rb s i _ g.size g.fine.after g.at' g.lt g.err).mono ?_;rintro e w2⟨rfl,A9,F⟩;have J7:=qd (j.kept F);have Y:=qd (u.trans F);have Z9:=qd (g.kept F A9 (g.fine.next));clear A9 F)|(go_at_call 243;refine(qbp rb s op f t o B HI JL _ _ (qg s i) l _ Z9 x J7).mono ?_;rintro e w3⟨D,L⟩;rw[q9 N]at L;(first|(subst L;simp only[qU])|(obtain⟨v3,rfl,M,P,lA,FK,fG⟩:=L;have M:=qd M;have P:=qd P;have cQ:=qd (Y.trans D);have R:rb<w3.heap.size:=bg Z9.lt D.size;clear D)))|(go_at_call 243;refine(qbp rb s op f t o B HI JL _ _ i l _ g x j).mono ?_;rintro e w' a;have a:=a.from' u y;rcases a.cases with⟨v,rfl,a⟩|⟨en,pl,rfl,a⟩;rotate_left;(exact⟨rfl,a⟩);have O:=qd a;clear a)|(go_at_call 200;refine(pR rb _ _ _ _ M R).mono ?_;rintro e w4⟨⟨v4,rfl,K⟩,z⟩;have K:=qd K;have z:=qd z))
  first
   | exact⟨rfl,Y.trans D,rfl⟩
   | (
    go_ret
    first
     | exact q9 O
     | (
      have cJ:=C.le (by rw[q9 G];decide)
      exact⟨cQ.trans (Kept.of_below z),_,rfl,q9 K,P.below z R,lA,FK,mw⟩)
     | exact⟨q9 u,_,rfl,q9 j,g.at',C,x,y⟩)
end Go.Proofs.YtfkcaldjphakpaaGreatDoor
