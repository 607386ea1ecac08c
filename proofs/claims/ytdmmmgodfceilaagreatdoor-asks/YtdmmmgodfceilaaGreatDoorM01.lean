/- joined -/
import Derived.Test.YtdmmmgodfceilaaGreatDoorM05
import Derived.Deep.RegionHeld3
set_option maxHeartbeats 16000000
set_option maxRecDepth 100000
namespace Go.Proofs.YtdmmmgodfceilaaGreatDoor
open Go.RowKit Go.Proofs.Tryz
open Go renaming Value->Ap,World->Ao
open Go.Ending renaming returned->Ak
open Go.IntKind renaming i64->J
open Go.Obj renaming cells->Al
open Go.Value renaming agg->Ai,bool->Ah,int->I,pointer->Ag,slice->C,string->Y
open Option renaming none->O,some->G
open Or renaming inl->Am,inr->An
variable{l:Ast}{s:tq}{e:Ending}{en:Int}{ts:List tu}{ks:List Int}{K base n pl rb:Nat}{row:Option Nat}{r:Res}{st st':St}{f:St->Res}{lv v:Ap}{w w' w1:Ao}
def viw(st:St)(l r:Ast):Ast:=.bin ⟨qef st.tk.A,st.M,0,[],[],[]⟩ l r
def jJ(s:ByteArray)(f:St->Res)(st:St)(l:Ast):Res:=match f (qh s st) with
 | .ok r st'=>.ok (viw st l r) st'
 | .err en pl=>.err en pl
theorem gP{r:Ast}(h:f (qh s st)=.ok r st'):jJ s f st l=.ok (viw st l r) st':=by unfold jJ;rw[h]
theorem kr{pl:Int}(h:f (qh s st)=.err en pl):jJ s f st l=.err en pl:=by unfold jJ;rw[h]
theorem vqr{Q:Prop}(h:Q)(_:wpAny prog .any #[] (λ_ _ _=>True) 0 #[] ⟨#[],[]⟩ w):Q:=h
theorem vah(s:tq)(st:St):(qh s st).op=st.op:=rfl
theorem Ready.stepped(h:Ready rb s w st)(a:Kept rb w w1)(b:RdAt w1 rb s (qh s st)):Ready rb s w1.drew (qh s st):=
 h.T a.drew (b.below ((Below.refl w1.1.size w1).drew) (aq h.lt a.size)) (qG s st h.U.B)
theorem IsNode.ptr{t:Ast}(h:IsNode rb w v t):∃b,v=Ag (G ⟨b,0,O⟩):=by
 cases t with
 | leaf p=>obtain⟨b,hv,_⟩:=h;exact⟨b,hv⟩
 | un p x=>obtain⟨b,g,a,hv,_⟩:=h;exact⟨b,hv⟩
 | bin p x y=>obtain⟨b,g,a,c,hv,_⟩:=h;exact⟨b,hv⟩
 | tri p x y z=>obtain⟨b,g,a,c,d,hv,_⟩:=h;exact⟨b,hv⟩
theorem IsNode.two{r:Ast}{rv:Ap}(c:IsNode rb w lv l)(b:IsNode rb w rv r)(d:rb<w.1.size)(op place:Int):
  IsNode rb ((w.alloc (Al #[lv,rv] 91)).alloc (Al #[I J op,I J place,C (G ⟨w.1.size,0,O⟩) 2 2,I J 0,Y ⟨#[]⟩,Y ⟨#[]⟩,C O 0 0] 163))
   (Ag (G ⟨w.1.size+1,0,O⟩)) (.bin ⟨op,place,0,[],[],[]⟩ l r):=by
 have a:Kept rb w ((w.alloc (Al #[lv,rv] 91)).alloc (Al #[I J op,I J place,C (G ⟨w.1.size,0,O⟩) 2 2,I J 0,Y ⟨#[]⟩,Y ⟨#[]⟩,C O 0 0] 163)):=((Kept.refl rb w).alloc _).alloc _;refine⟨w.1.size+1,w.1.size,lv,rv,rfl,⟨ub,uc,uc,uc,uc,uc,by simp[BS],by simp[BS],C O 0 0,uc,Am ⟨rfl,rfl⟩⟩,d,ud, ?_, ?_,c.T a,b.T a⟩;rw[bw _ _ _ uc,ch _ _ _ _ rfl];rfl;rw[bw _ _ _ uc,ch _ _ _ _ rfl];rfl
theorem qey(E:K=120\/K=170\/K=251\/K=288\/K=228)(rb:Nat)(s:tq)(op:Nat)(f:St->Res)(u:zI K rb s op f)(st:St)(l:Ast)(lv:Ap)(w:Ao)(h:Ready rb s w st)(x:st.op=op)(k:IsNode rb w lv l):
  ua 169 #[Ag (G ⟨rb,0,O⟩),lv,.func (.func K) #[Ag (G ⟨rb,0,O⟩)] #[]] w (Gives rb s w op st.B (jJ s f st l)):=by
 have D:=h.at';have z:=h.lt;have H:=qd h;obtain⟨c0,U,T,S,c4,R,Q,fz⟩:=D;have y:=qd u;obtain⟨lb,rfl⟩:=k.ptr;have M:=qd k;have n0:¬w.1.size=rb:=ub;clear u h k;rcases E with rfl|rfl|rfl|rfl|rfl
 all_goals
  cases A9:f (qh s st) with
  | ok r st'=>
   rw[gP A9];have m:=qd A9;clear A9;go_enter func169,ntmps169
   go_wp2_with(go_at_call 81;refine be (yA rb s st _ H.size H.U.B (H.at'.X _ z) ud (H.err.alloc _)) ?_;rintro w1⟨c,a⟩;have c:=qd c;have j:w.1.size<w1.1.size:=(by have:=a.size;simp at this;omega);have t:Xc w1 w.1.size 0 (I J st.tk.A):=((jZ a).1 _ 0 uc n0).trans uc;have q:Xc w1 w.1.size 1 (I J st.M):=((jZ a).1 _ 1 uc n0).trans uc;have d:=qd (((Kept.refl rb w).alloc _).trans a);clear a)
   go_region_held3 (λw'=>Xc w' w.1.size 0 (I J st.tk.A)/\Xc w' w.1.size 1 (I J st.M)) (go_keep) (first|(go_at_call 208;refine be (qbr _ _) ?_;rintro w' rfl)|((first|go_at_call 120|go_at_call 170|go_at_call 251|go_at_call 288|go_at_call 228);refine(y _ (qh s st) (H.stepped d c) x).mono ?_;rintro e w2⟨b,g⟩;rw[q9 m]at g;obtain⟨P,rfl,i,o,A,F,L⟩:=g;obtain⟨N,rfl⟩:=i.ptr;have C:Xc w2 w.1.size 0 (I J st.tk.A):=((jZ b).1 _ 0 j n0).trans t;have B:Xc w2 w.1.size 1 (I J st.M):=((jZ b).1 _ 1 j n0).trans q;have W:w.1.size<w2.1.size:=aq j b.size;have b:=qd b;have i:=qd i;have o:=qd o))
   all_goals(go_wp2)
   all_goals go_ret
   refine⟨?_,_,rfl, ?_, ?_,A,F,bs (zp s st) L⟩;exact(((d.trans ((Kept.refl rb w1).drew.trans b)).alloc _).alloc _);have:=IsNode.two (op:=qef st.tk.A) (place:=st.M) (M.T (d.trans ((Kept.refl rb w1).drew.trans b))) i ub;exact this;exact((o.X _ ub).X _ ud)
  | err en pl=>
   rw[kr A9];have m:=qd A9;clear A9;go_enter func169,ntmps169
   go_wp2_with(go_at_call 81;refine be (yA rb s st _ H.size H.U.B (H.at'.X _ z) ud (H.err.alloc _)) ?_;rintro w1⟨c,a⟩;have c:=qd c;have j:w.1.size<w1.1.size:=(by have:=a.size;simp at this;omega);have t:Xc w1 w.1.size 0 (I J st.tk.A):=((jZ a).1 _ 0 uc n0).trans uc;have q:Xc w1 w.1.size 1 (I J st.M):=((jZ a).1 _ 1 uc n0).trans uc;have d:=qd (((Kept.refl rb w).alloc _).trans a);clear a)
   go_region_with(first|(go_at_call 208;refine be (qbr _ _) ?_;rintro w' rfl)|((first|go_at_call 120|go_at_call 170|go_at_call 251|go_at_call 288|go_at_call 228);refine(y _ (qh s st) (H.stepped d c) x).mono ?_;rintro e w2⟨b,g⟩;rw[q9 m]at g;subst g;refine vqr (w:=w2) ⟨rfl,d.trans ((Kept.refl rb w1).drew.trans b),rfl⟩ ?_))
   all_goals trivial
def jg(s:ByteArray)(f:St->Res)(ks:List Int):Nat->Ast->St->Res
 | 0,l,st=>.ok l st
 | n+1,l,st=>if ks.contains st.tk.A then(match jJ s f st l with
   | .ok l' st'=>jg s f ks n l' st'
   | .err en pl=>.err en pl) else .ok l st
def jR(s:ByteArray)(f:St->Res)(ks:List Int)(st:St):Res:=match f st with
 | .ok l st'=>jg s f ks (s.size+1) l st'
 | .err en pl=>.err en pl
theorem gq(h:ks.contains st.tk.A=false):jg s f ks (n+1) l st=.ok l st:=by
 rw[jg,ak (by rw[h];simp)]
theorem gn{l':Ast}(h:ks.contains st.tk.A=true)(a:jJ s f st l=.ok l' st'):jg s f ks (n+1) l st=jg s f ks n l' st':=by
 rw[jg,bo h,a]
theorem pH{pl:Int}(h:ks.contains st.tk.A=true)(a:jJ s f st l=.err en pl):jg s f ks (n+1) l st=.err en pl:=by
 rw[jg,bo h,a]
theorem qdv(h:f st=.ok l st'):jR s f ks st=jg s f ks (s.size+1) l st':=by unfold jR;rw[h]
theorem qb9{pl:Int}(h:f st=.err en pl):jR s f ks st=.err en pl:=by unfold jR;rw[h]
def vqu(w:Ao)(rb:Nat):Nat:=match w.cell? ⟨rb,2,O⟩ with
 | some (I _ n)=>n.toNat
 | _=>0
theorem qh2(h:RdAt w rb s st):vqu w rb=st.M:=by
 unfold vqu;rw[h.c2];simp
theorem KsAt.T{b:Nat}(h:KsAt w b ks)(c:Kept rb w w')(g:b<w.1.size)(a:¬b=rb):KsAt w' b ks:=
 λj k d=>((jZ c).1 b j g a).trans (h j k d)
theorem qho(hK:K=120\/K=170\/K=251\/K=288)(rb i cap:Nat)(s:tq)(op:Nat)(f:St->Res)(D:zI K rb s op f)(ks:List Int)(UF:ks.length<=8)(h0:ks.contains 0=false)(st:St)(w:Ao)(h:Ready rb s w st)(J4:st.op=op)(Z:KsAt w i ks)(JQ:i<w.1.size)(z:¬i=rb):
  ua 119 #[Ag (G ⟨rb,0,O⟩),.func (.func K) #[Ag (G ⟨rb,0,O⟩)] #[],C (G ⟨i,0,O⟩) ks.length cap] w (Gives rb s w op st.M (jR s f ks st)):=by
 have H:=qd h;have JK:=qd (qey (show K=120\/K=170\/K=251\/K=288\/K=228 by omega) rb s op f D);have HF:=qd D;have HO:=qd Z;have A1:=h.lt;clear h D Z;rcases hK with rfl|rfl|rfl|rfl
 all_goals
  cases A9:f st with
  | err en pl=>
   rw[qb9 A9];have Q:=qd A9;clear A9;go_enter func119,ntmps119
   go_wp2_with((first|go_at_call 120|go_at_call 170|go_at_call 251|go_at_call 288);refine(HF _ st H J4).mono ?_;rintro e w1⟨g,k⟩;rw[q9 Q]at k;subst k;simp only[ve])
   exact⟨rfl,g,rfl⟩
  | ok l0 st0=>
   rw[qdv A9];have Q:=qd A9;clear A9;obtain⟨R,b⟩:∃r,jg s f ks (s.size+1) l0 st0=r:=⟨_,rfl⟩;rw[b];have HR:=qd b;clear b;go_enter func119,ntmps119
   go_wp2_with((first|go_at_call 120|go_at_call 170|go_at_call 251|go_at_call 288);refine(HF _ st H J4).mono ?_;rintro e w1⟨g,k⟩;rw[q9 Q]at k;obtain⟨v1,rfl,x,Y,X,Q8,T8⟩:=k;have x:=qd x;have Y:=qd Y;have g:=qd g;have X:=qd X)
   go_loopw [7] (λv wr=>∃(n:Nat) (l:Ast) (a:St),Hid (R=jg s f ks n l a)/\s.size<n+a.M/\IsNode rb wr v l/\Hid (Ready rb s wr a)/\a.op=op/\st.M<=a.M/\Kept rb w wr) (λv wr=>s.size+1 - vqu wr rb)
   exact⟨s.size+1,l0,st0,qd HR.symm,ub,q9 x,qd (H.T g Y X),Q8,T8,q9 g⟩;obtain⟨n,l,a,b,hn,T,c,y,Q6,B⟩:=hrel;have S:=(q9 c).U;have hf1':=S.M;obtain⟨lb,rfl⟩:=T.ptr;obtain⟨m,rfl⟩:∃m,n=m+1:=⟨n - 1,ub⟩;have L:=qd (HO.T B JQ z);have M:=qd T;have U:=qd B;have dV:=(q9 c).lt;have XO:=qd (qh2 c.at');obtain⟨c0,c1,J,I,c4,F,E,fz⟩:=(q9 c).at';clear T B;have CON:=λw=>qfz i cap ks a.tk.A w UF
   cases hc:ks.contains a.tk.A with
   | false=>
    have o:Hid (R=.ok l a):=qd (by rw[q9 b,gq hc]);rw[hc]at CON;have q:=qd CON;clear hc CON b c0 J I c4 F E fz
    go_wp2_with(go_at_call 168;refine be (q _ L) ?_;rintro w' rfl)
    go_ret;rw[q9 o];exact⟨q9 U,_,rfl,q9 M,c.at',S,y,Q6⟩
   | true=>
    rw[hc]at CON;have q:=qd CON;have N:a.tk.A≠0:=λh=>by rw[h,h0]at hc;cases hc
    have A:=S.long N
    cases hj:jJ s f a l with
    | err en pl=>
     have o:Hid (R=.err en pl):=qd (by rw[q9 b,pH hc hj]);have W:=qd hj;clear hc CON b hj c0 J I c4 F E fz N
     go_wp2_with(first|(go_at_call 168;refine be (q _ L) ?_;rintro w' rfl)|(go_at_call 169;refine(JK a l _ _ c y M).mono ?_;rintro e w2⟨d,j⟩;rw[q9 W]at j;subst j;simp only[ve]))
     rw[q9 o];exact⟨rfl,U.trans d,rfl⟩
    | ok l2 L0=>
     have o:Hid (R=jg s f ks m l2 L0):=qd (by rw[q9 b,gn hc hj]);have W:=qd hj;clear hc CON b hj c0 J I c4 F E fz N
     go_wp2_with(first|(go_at_call 168;refine be (q _ L) ?_;rintro w' rfl)|(go_at_call 169;refine(JK a l _ _ c y M).mono ?_;rintro e w2⟨d,j⟩;rw[q9 W]at j;obtain⟨v2,rfl,P,u,t,Z9,U9⟩:=j;have ER:=qd (qh2 u);have u:=qd u;have P:=qd P;have d:=qd d;have t:=qd t))
     have A3:=(q9 t).M
     go_roundw
     exact⟨m,l2,L0,o,ub,q9 P,qd (c.T d u t),Z9,ub,U.trans d⟩;rw[q9 XO,q9 ER];omega
theorem Ready.X(h:Ready rb s w st)(o:Obj):Ready rb s (w.alloc o) st:=
 h.T ((Kept.refl rb w).alloc o) (h.at'.X o h.lt) h.U
theorem Gives.from{op a:Nat}(b:Kept rb w w1)(h:Gives rb s w1 op a r e w'):Gives rb s w op a r e w':=⟨b.trans h.1,h.2⟩
theorem Gives.cases{op a:Nat}(h:Gives rb s w op a r e w'):(∃v,e=Ak v/\Gives rb s w op a r (Ak v) w')\/(∃en pl,e=ve en pl/\Gives rb s w op a r (ve en pl) w'):=by
 cases r with
 | ok t st=>obtain⟨b,v,rfl,c⟩:=h;exact Am ⟨v,rfl,b,v,rfl,c⟩
 | err en pl=>obtain⟨b,rfl⟩:=h;exact An ⟨en,pl,rfl,b,rfl⟩
theorem qin(rb:Nat)(s:tq)(op:Nat)(f:St->Res)(c:zI 120 rb s op f):zI 82 rb s op (jR s f [6]):=by
 intro w st h d;have H:=qd h;have g:=qd c;have i:=h.lt;go_enter func82,ntmps82
 go_wp2_with fail
 refine(qho ue rb w.1.size 1 s op f g [6] ue ue st _ (H.X _) d ?ks uc ub).mono ?_
 case ks=>
  intro j k b
  match j,b with
  | 0,b=>simp at b;subst b;simp
 rintro e w' a;rcases a.cases with⟨v,rfl,a⟩|⟨en,pl,rfl,a⟩
 .have HG:=qd (a.from ((Kept.refl rb w).alloc _))
  go_wp2
  go_ret;exact q9 HG
 exact⟨rfl,a.from ((Kept.refl rb w).alloc _)⟩
theorem qs2(rb:Nat)(s:tq)(op:Nat)(f:St->Res)(c:zI 170 rb s op f):zI 120 rb s op (jR s f [5]):=by
 intro w st h d;have H:=qd h;have g:=qd c;have i:=h.lt;go_enter func120,ntmps120
 go_wp2_with fail
 refine(qho ue rb w.1.size 1 s op f g [5] ue ue st _ (H.X _) d ?ks uc ub).mono ?_
 case ks=>
  intro j k b
  match j,b with
  | 0,b=>simp at b;subst b;simp
 rintro e w' a;rcases a.cases with⟨v,rfl,a⟩|⟨en,pl,rfl,a⟩
 .have HG:=qd (a.from ((Kept.refl rb w).alloc _))
  go_wp2
  go_ret;exact q9 HG
 exact⟨rfl,a.from ((Kept.refl rb w).alloc _)⟩
theorem vaq(rb:Nat)(s:tq)(op:Nat)(f:St->Res)(c:zI 251 rb s op f):zI 228 rb s op (jR s f [22,23]):=by
 intro w st h d;have H:=qd h;have g:=qd c;have i:=h.lt;go_enter func228,ntmps228
 go_wp2_with fail
 refine(qho ue rb w.1.size 2 s op f g [22,23] ue ue st _ (H.X _) d ?ks uc ub).mono ?_
 case ks=>
  intro j k a
  match j,a with
  | 0,a=>simp at a;subst a;simp
  | 1,a=>simp at a;subst a;simp
 rintro e w' b;rcases b.cases with⟨v,rfl,b⟩|⟨en,pl,rfl,b⟩
 .have HG:=qd (b.from ((Kept.refl rb w).alloc _))
  go_wp2
  go_ret;exact q9 HG
 exact⟨rfl,b.from ((Kept.refl rb w).alloc _)⟩
theorem qh5(rb:Nat)(s:tq)(op:Nat)(f:St->Res)(c:zI 288 rb s op f):zI 251 rb s op (jR s f [24,25]):=by
 intro w st h d;have H:=qd h;have g:=qd c;have i:=h.lt;go_enter func251,ntmps251
 go_wp2_with fail
 refine(qho ue rb w.1.size 2 s op f g [24,25] ue ue st _ (H.X _) d ?ks uc ub).mono ?_
 case ks=>
  intro j k a
  match j,a with
  | 0,a=>simp at a;subst a;simp
  | 1,a=>simp at a;subst a;simp
 rintro e w' b;rcases b.cases with⟨v,rfl,b⟩|⟨en,pl,rfl,b⟩
 .have HG:=qd (b.from ((Kept.refl rb w).alloc _))
  go_wp2
  go_ret;exact q9 HG
 exact⟨rfl,b.from ((Kept.refl rb w).alloc _)⟩
def kZ(s:ByteArray)(st:St):St:={ qh s st with op:=st.op+1 }
def vu(s:ByteArray)(f:St->Res)(st:St):Res:=if st.op=12 then .err 3 st.M else match f (kZ s st) with
 | .ok t st'=>if st'.tk.A=27 then .ok t { qh s st' with op:=st.op } else .err 2 st'.M
 | .err en pl=>.err en pl
theorem Fine.op(h:Fine s st)(n:Nat):Fine s { st with op:=n }:=⟨h.M,h.B,h.long⟩
theorem Fine.next(h:Fine s st):Fine s (qh s st):=qG s st h.B
theorem Fine.le(h:Fine s st)(a:st.tk.A≠0):st.M<=(qh s st).M:=bs (Nat.le_of_lt (h.long a)) (zp s st)
theorem yM(h:Ready rb s w st)(k:Int):ua 83 #[Ag (G ⟨rb,0,O⟩),I J k] w λe w'=>Kept rb w w'/\(st.tk.A=k/\e=Ak (tkV st.tk st.M)/\Ready rb s w' (qh s st)\/¬st.tk.A=k/\e=ve 2 st.M):=by
 by_cases hk:st.tk.A=k
 exact(qhv rb s st k w h.size h.U.B h.at' h.lt h.err hk).mono λ_ _ ⟨b,a,c⟩=>⟨c,Am ⟨hk,b,h.T c a h.U.next⟩⟩
 exact(qpq rb s st k w h.at' h.lt hk).mono λ_ _ ⟨b,a⟩=>⟨a,An ⟨hk,b⟩⟩
theorem qhw(h:Ready rb s w st){k:Int}(b:st.tk.A=k):ua 83 #[Ag (G ⟨rb,0,O⟩),I J k] w λe w'=>e=Ak (tkV st.tk st.M)/\Ready rb s w' (qh s st)/\Kept rb w w':=
 (qhv rb s st k w h.size h.U.B h.at' h.lt h.err b).mono λ_ _ ⟨d,c,a⟩=>⟨d,h.T a c h.U.next,a⟩
theorem qpo(h:Ready rb s w st)(k:Int):ua 252 #[Ag (G ⟨rb,0,O⟩),I J k] w λe w'=>∃b st',e=Ak (Ah b)/\Kept rb w w'/\Ready rb s w' st'/\(b=true/\st.tk.A=k/\st'=qh s st\/b=false/\¬st.tk.A=k/\st'=st):=by
 by_cases hk:st.tk.A=k
 exact(vgk rb s st k w h.size h.U.B h.at' h.lt h.err hk).mono λ_ _ ⟨c,a,d⟩=>⟨true,_,c,d,h.T d a h.U.next,Am ⟨rfl,hk,rfl⟩⟩
 exact(vmm rb s st k w h.at' hk).mono λ_ _ ⟨c,a⟩=>⟨false,_,c,a ▸ Kept.refl _ _,a ▸ h,An ⟨rfl,hk,rfl⟩⟩
abbrev tkC(st:St):Array Ap:=#[I J st.tk.A,I J st.M,I J st.tk.K,Y (BS st.tk.V)]
theorem pM(a:Kept rb (w.alloc (Al (tkC st) 154)) w')(n:¬w.1.size=rb):(∀i,w'.cell? ⟨w.1.size,i,O⟩=(tkC st)[i]?)/\w.1.size<w'.1.size:=
 ⟨λi=>((jZ a).1 _ i uc n).trans uc,by have:=a.size;simp at this;omega⟩
theorem qg7(h:Ready rb s w st)(d:st.op<=12):ua 210 #[Ag (G ⟨rb,0,O⟩)] w λe w'=>Kept rb w w'/\(¬st.op=12/\e=Ak (tkV st.tk st.M)/\Ready rb s w' (kZ s st)\/st.op=12/\e=ve 3 st.M):=by
 by_cases hk:st.op=12
 exact(vd2 rb s st w h.at' h.lt hk).mono λ_ _ ⟨b,a⟩=>⟨a,An ⟨hk,b⟩⟩
 exact(vd3 rb s st w h.size h.U.B h.at' h.lt h.err h.glob ub).mono λ_ _ ⟨b,a,c⟩=>⟨c,Am ⟨hk,b,h.T c a (h.U.next.op _)⟩⟩
theorem Gives.split{op a:Nat}(h:Gives rb s w op a r e w')(H:Ready rb s w st):Kept rb w w'/\((∃t st' b,r=.ok t st'/\e=Ak (Ag (G ⟨b,0,O⟩))/\IsNode rb w' (Ag (G ⟨b,0,O⟩)) t/\Ready rb s w' st'/\st'.op=op/\a<=st'.M)\/∃en pl,r=.err en pl/\e=ve en pl):=by
 cases r with
 | ok t st'=>obtain⟨c,v,rfl,d,k,j,i,g⟩:=h;obtain⟨b,rfl⟩:=d.ptr;exact⟨c,Am ⟨t,st',b,rfl,rfl,d,H.T c k j,i,g⟩⟩
 | err en pl=>exact⟨h.1,An ⟨en,pl,rfl,h.2⟩⟩
theorem Ready.drew(h:Ready rb s w st):Ready rb s w.drew st:=h.T (Kept.refl _ _).drew (h.at'.below ((Below.refl w.1.size w).drew) h.lt) h.U
theorem qnd(rb:Nat)(s:tq)(op:Nat)(J4:op<=12)(f:St->Res)(A:op<12->zI 82 rb s (op+1) f)(w:Ao)(st:St)(h:Ready rb s w st)(y:st.op=op)(C:st.tk.A≠0):
  ua 313 #[Ag (G ⟨rb,0,O⟩)] w (Gives rb s w op st.M (vu s f st)):=by
 have H:=qd h;have aB:=h.U.le C;have N:=qd A;obtain⟨R,i⟩:=it (vu s f st);rw[i];have L:=qd i;go_enter func313,ntmps313
 go_wp2_with(first|(go_at_call 210;refine(qg7 H ub).mono ?_;rintro e w1⟨U,⟨q,rfl,Q⟩|⟨q,rfl⟩⟩;all_goals(have a:=qd U;have d:=qd q);all_goals first|(have o:=qd Q;simp only[tkV])|simp only[ve])|(go_at_call 82;refine(N (uu (q9 d)) _ (kZ s st) o (by show st.op+1=op+1;omega)).mono ?_;rintro e w2 z;obtain⟨T,⟨t,F,W,hq,rfl,D,S,B,U9⟩|⟨en,pl,hq,rfl⟩⟩:=z.split o;all_goals(replace a:=qd (a.trans T);have M:=qd hq);all_goals first|(have m:=qd S;have x:=qd D;have P:=qd B)|simp only[ve])|(go_at_call 83;refine(yM m 27).mono ?_;rintro e u⟨b,⟨k,rfl,g⟩|⟨k,rfl⟩⟩;all_goals(replace a:=qd (a.trans b);have c:=qd k);all_goals first|(have d6:u.cell? ⟨rb,6,O⟩=G (I J ((op:Int)+1)):=(by rw[g.at'.c6,vah,q9 P];simp);have Z:=g.at'.fz;have j:=qd g;have b:=qd b;simp only[tkV])|simp only[ve]))
 all_goals
  have E:=q9 L;unfold vu at E
  first
  | (rw[bo (q9 d)]at E;subst E;exact⟨rfl,q9 a,rfl⟩)
  | (
   rw[ak (q9 d),q9 M]at E
   first
   | (
    have _q:=c
    dsimp only at E
    first
    | (rw[ak (q9 c)]at E;subst E;exact⟨rfl,q9 a,rfl⟩)
    | (
     rw[bo (q9 c)]at E;subst E;go_ret;have Y:=(q9 m).U.le (by rw[q9 c];decide);have X:(kZ s st).M=(qh s st).M:=rfl
     exact⟨a.setCell 6 _,_,rfl,x.T (b.setCell 6 _),j.at'.b st.op _ ub,j.U.op _,y,by show st.M<=(qh s F).M;omega⟩))
   | (subst E;exact⟨rfl,q9 a,rfl⟩))
theorem IsNode.one(a:IsNode rb w lv l)(c:rb<w.1.size)(op place:Int):
  IsNode rb ((w.alloc (Al #[lv] 91)).alloc (Al #[I J op,I J place,C (G ⟨w.1.size,0,O⟩) 1 1,I J 0,Y ⟨#[]⟩,Y ⟨#[]⟩,C O 0 0] 163))
   (Ag (G ⟨w.1.size+1,0,O⟩)) (.un ⟨op,place,0,[],[],[]⟩ l):=by
 have b:Kept rb w ((w.alloc (Al #[lv] 91)).alloc (Al #[I J op,I J place,C (G ⟨w.1.size,0,O⟩) 1 1,I J 0,Y ⟨#[]⟩,Y ⟨#[]⟩,C O 0 0] 163)):=((Kept.refl rb w).alloc _).alloc _;refine⟨w.1.size+1,w.1.size,lv,rfl,⟨ub,uc,uc,uc,uc,uc,by simp[BS],by simp[BS],C O 0 0,uc,Am ⟨rfl,rfl⟩⟩,c,ud, ?_,a.T b⟩;rw[bw _ _ _ uc,ch _ _ _ _ rfl];rfl
theorem qax(rb:Nat)(x:Ast)(a:Ap)(place:Int)(w:Ao)(c:IsNode rb w a x)(g:rb<w.1.size):
  ua 211 #[a,I J place] w λe w'=>(∃v,e=Ak v/\IsNode rb w' v (.un ⟨5,place,0,[],[],[]⟩ x))/\Xb w w':=by
 obtain⟨b,rfl⟩:=c.ptr;have d:=qd c;go_enter func211,ntmps211
 go_wp2
 go_ret;exact⟨⟨_,rfl,d.one g 5 place⟩,qK _ _ _⟩
theorem Kept.grown{a:Ao}(h:Kept rb a w)(b:w.grownBy w' row)(g:∀k,row=G k->a.1.size<=k):Kept rb a w':=
 ⟨b.os.trans h.os,b.tape.trans h.tape,b.output.trans h.output,bs h.size b.size,λk c d=>(b.block k (aq c h.size) (λe=>uu (g k e.symm))).trans (h.block k c d)⟩
theorem RdAt.same(h:RdAt w rb s st)(c:w'.1[rb]?=w.1[rb]?):RdAt w' rb s st:=by
 have b:∀j,w'.cell? ⟨rb,j,O⟩=w.cell? ⟨rb,j,O⟩:=λj=>aw (w:=w) (w':=w') (a:=⟨rb,j,O⟩) c
 have d:∀j,w'.frozen? ⟨rb,j,O⟩=w.frozen? ⟨rb,j,O⟩:=λj=>cn (w:=w) (w':=w') (a:=⟨rb,j,O⟩) c
 exact⟨(b 0).trans h.c0,(b 1).trans h.c1,(b 2).trans h.c2,(b 3).trans h.c3,(b 4).trans h.c4,(b 5).trans h.c5,(b 6).trans h.c6,λj=>(d j).trans (h.fz j)⟩
theorem RdAt.grown(h:RdAt w rb s st)(a:w.grownBy w' row)(c:rb<w.1.size)(b:∀k,row=G k->rb<k):RdAt w' rb s st:=
 h.same (a.block rb c (λe=>uu (b rb e.symm)))
theorem qh0{e size:Nat}{xs:List Ap}(h:w.ownsRow base e size v n xs)(c:Kept rb w w')(i:rb<base):w'.ownsRow base e size v n xs:=by
 refine⟨h.1, ?_⟩;rcases h.2 with b|⟨g,cap,cur,rfl,d,a,rest⟩;exact Am b;refine An ⟨g,cap,cur,rfl,d, ?_,rest⟩;rw[c.block g (cf.1 a).1 ub];exact a
def qx(ts:List (List UInt8)):List Ap:=ts.map λt=>Y (BS t)
theorem TextsAt.of_row{e:Nat}(h:w.ownsRow base e 1 v ts.length (qx ts))(k:rb<base):TextsAt rb w v ts:=by
 have c:=h;rcases h.2 with⟨hv,b⟩|⟨g,cap,cur,rfl,m,i,_⟩;exact Am ⟨de b,hv⟩;refine An ⟨g,cap,rfl,ub,(cf.1 i).1,λj t a=>?_⟩;have:=c.cells (g:=g) rfl j (Y (BS t)) (by simp[qx,a]);have d:(⟨g,0,O⟩:Addr).add j=⟨g,j,O⟩:=by unfold Addr.add;split<;>simp_all
 rwa [d]at this
theorem IsNode.texted{tv:Ap}(c:IsNode rb w lv l)(d:rb<w.1.size)(b:TextsAt rb w tv ts)(op place:Int)(str esc:tu):
  IsNode rb ((w.alloc (Al #[lv] 91)).alloc (Al #[I J op,I J place,C (G ⟨w.1.size,0,O⟩) 1 1,I J 0,Y (BS str),Y (BS esc),tv] 163))
   (Ag (G ⟨w.1.size+1,0,O⟩)) (.un ⟨op,place,0,str,esc,ts⟩ l):=by
 have a:Kept rb w ((w.alloc (Al #[lv] 91)).alloc (Al #[I J op,I J place,C (G ⟨w.1.size,0,O⟩) 1 1,I J 0,Y (BS str),Y (BS esc),tv] 163)):=((Kept.refl rb w).alloc _).alloc _;refine⟨w.1.size+1,w.1.size,lv,rfl,⟨ub,uc,uc,uc,uc,uc,uc,uc,tv,uc,b.T a⟩,d,ud, ?_,c.T a⟩;rw[bw _ _ _ uc,ch _ _ _ _ rfl];rfl
theorem Fine.lt(h:Fine s st)(a:st.tk.A≠0):st.M<(qh s st).M:=aq (h.long a) (zp s st)
theorem qir(k p n:Int)(b:tq)(w:Ao):(Instr.field 154 (Ai #[I J k,I J p,I J n,Y b]) 3).run prog w=.ok (Y b) w:=uh
def zQ(s:ByteArray)(l:Ast)(pl:Nat):Nat->List (List UInt8)->St->Res
 | 0,_,_=>.err 0 0
 | n+1,ts,st=>if st.tk.A=28 then(if(qh s st).tk.A=4 then zQ s l pl n (ts++[(qh s st).tk.V]) (qh s (qh s st)) else .err 2 (qh s st).M)
   else if st.tk.A=27 then .ok (.un ⟨21,pl,0,[],[],ts⟩ l) (qh s st) else .err 2 st.M
def xE(s:ByteArray)(l:Ast)(st:St):Res:=
 if(qh s st).tk.A=26 then(if(qh s (qh s st)).tk.A=4 then zQ s l st.M (s.size+1) [(qh s (qh s st)).tk.V] (qh s (qh s (qh s st))) else .err 2 (qh s (qh s st)).M)
 else .err 2 (qh s st).M
theorem qcv(h:st.tk.A=28)(a:(qh s st).tk.A=4):zQ s l pl (n+1) ts st=zQ s l pl n (ts++[(qh s st).tk.V]) (qh s (qh s st)):=by rw[zQ,bo h,bo a]
theorem qew(h:st.tk.A=28)(a:¬(qh s st).tk.A=4):zQ s l pl (n+1) ts st=.err 2 (qh s st).M:=by rw[zQ,bo h,ak a]
theorem qex(h:¬st.tk.A=28)(a:st.tk.A=27):zQ s l pl (n+1) ts st=.ok (.un ⟨21,pl,0,[],[],ts⟩ l) (qh s st):=by rw[zQ,ak h,bo a]
theorem qcw(h:¬st.tk.A=28)(a:¬st.tk.A=27):zQ s l pl (n+1) ts st=.err 2 st.M:=by rw[zQ,ak h,ak a]
theorem vn1(w:Ao)(base:Nat)(a:base<=w.1.size)(t:tu):(w.alloc (Al #[Y (BS t)] 9)).ownsRow base 9 1 (C (G ⟨w.1.size,0,O⟩) 1 1) [t].length (qx [t]):=
 ⟨rfl,An ⟨w.1.size,1,#[Y (BS t)],rfl,a,heap_alloc_new w _,ui,ue,rfl,rfl⟩⟩
def vJ(s:ByteArray)(f:St->Res)(o:Int)(st:St):Res:=if st.op=12 then .err 3 st.M else match f (kZ s st) with
 | .ok x st'=>.ok (.un ⟨o,st.M,0,[],[],[]⟩ x) { st' with op:=st.op }
 | .err en pl=>.err en pl
theorem qua(rb:Nat)(s:tq)(op:Nat)(J4:op<=12)(f:St->Res)(B:op<12->zI 288 rb s (op+1) f)(o:Int)(w:Ao)(st:St)(h:Ready rb s w st)(y:st.op=op)(D:st.tk.A≠0):
  ua 312 #[Ag (G ⟨rb,0,O⟩),I J o] w (Gives rb s w op st.M (vJ s f o st)):=by
 have H:=qd h;have A1:=h.lt;have Y:=h.U.le D;have P:=qd B;obtain⟨R,g⟩:=it (vJ s f o st);rw[g];have M:=qd g;go_enter func312,ntmps312
 go_wp2_with(first|(go_at_call 210;refine(qg7 H ub).mono ?_;rintro e w1⟨d,⟨m,rfl,Q⟩|⟨m,rfl⟩⟩;all_goals(have B8:=d.size;have t:¬w1.1.size=rb:=ub;have b:=qd m);all_goals first|(have a:=qd (d.alloc (Al (tkC st) 154));have j:=qd (Q.X (Al (tkC st) 154));simp only[tkV])|(have a:=qd d;simp only[ve]))|(go_at_call 288;refine(P (uu (q9 b)) _ (kZ s st) j (by show st.op+1=op+1;omega)).mono ?_;rintro e w2 A;obtain⟨q,⟨x,L,S,hq,rfl,F,c,C,Z⟩|⟨en,pl,hq,rfl⟩⟩:=A.split j;all_goals(replace a:=qd (a.trans q);have N:=qd hq;obtain⟨T,D4⟩:=pM q t;have k:rb<w2.1.size:=ub);all_goals first|(have X:w2.cell? ⟨rb,6,O⟩=G (I J ((op:Int)+1)):=(by rw[c.at'.c6,C];simp);have W:=c.at'.fz;have i:=qd c;have u:=qd F)|simp only[ve]))
 all_goals
  have E:=q9 M;unfold vJ at E
  first
  | (rw[bo (q9 b)]at E;subst E;exact⟨rfl,q9 a,rfl⟩)
  | (
   rw[ak (q9 b),q9 N]at E;subst E
   first
   | exact⟨rfl,q9 a,rfl⟩
   | (
    go_ret;have U:(kZ s st).M=(qh s st).M:=rfl;have z:=IsNode.one (u.T ((Kept.refl rb w2).setCell 6 (I J (op:Int)))) (by rw[size_setCell];exact k) o st.M
    exact⟨((a.setCell 6 _).alloc _).alloc _,_,rfl,by simpa using z,((i.at'.b st.op _ ub).X _ (by simpa using k)).X _ ud,i.U.op _,y,by show st.M<=L.M;omega⟩))
def kK(o:Int)(st:St)(num:Int)(str:List UInt8):Ast:=.leaf ⟨o,st.M,num,str,[],[]⟩
def vY(s:ByteArray)(fS fE:St->Res)(st:St):Res:=
 if st.tk.A=22 then vJ s fS 14 st else if st.tk.A=23 then vJ s fS 15 st else if st.tk.A=26 then vu s fE st
 else if st.tk.A=2 then .ok (kK 0 st 0 st.tk.V) (qh s st)
 else if st.tk.A=3 then .ok (kK 1 st st.tk.K []) (qh s st)
 else if st.tk.A=4 then .ok (kK 2 st 0 st.tk.V) (qh s st)
 else if st.tk.A=8 then .ok (kK 3 st 0 []) (qh s st)
 else if st.tk.A=9 then .ok (kK 4 st 0 []) (qh s st) else .err 2 st.M
theorem IsNode.leafed(a:rb<w.1.size)(op place num:Int)(str:tu):
  IsNode rb (w.alloc (Al #[I J op,I J place,C O 0 0,I J num,Y (BS str),Y ⟨#[]⟩,C O 0 0] 163))
   (Ag (G ⟨w.1.size,0,O⟩)) (.leaf ⟨op,place,num,str,[],[]⟩):=
 ⟨w.1.size,rfl,⟨a,uc,uc,uc,uc,uc,uc,by simp[BS],C O 0 0,uc,Am ⟨rfl,rfl⟩⟩⟩
theorem qn1(k p n:Int)(b:tq)(w:Ao):(Instr.field 154 (Ai #[I J k,I J p,I J n,Y b]) 1).run prog w=.ok (I J p) w:=uh
theorem qkg(rb:Nat)(s:tq)(op:Nat)(P:op<=12)(fS fE:St->Res)(L:op<12->zI 288 rb s (op+1) fS)(M:op<12->zI 82 rb s (op+1) fE):zI 288 rb s op (vY s fS fE):=by
 intro w st h k;have H:=qd h;have S:=qd L;have T:=qd M;have G:=h.lt;have n0:¬w.1.size=rb:=ub;have j:st.tk.A≠0->st.M<=(qh s st).M:=h.U.le;have N:=qd h.U.next;obtain⟨c0,c1,c2,c3,c4,c5,c6,fz⟩:=h.at';clear h L M;obtain⟨K,m⟩:=it st.tk.A;obtain⟨R,a⟩:=it (vY s fS fE st);have E:∀c:Int,(st.tk.A==c)=(K==c):=λc=>by rw[m]
 rw[a];unfold vY at a;rw[m]at a j;have o:=qd m;clear m;rcases(show(K=22\/K=23\/K=26)\/(K=2\/K=3\/K=4\/K=8)\/K=9\/(¬K=22/\¬K=23/\¬K=26/\¬K=2/\¬K=3/\¬K=4/\¬K=8/\¬K=9) by omega) with t|t|rfl|⟨D,C,B,A,z,y,x,u⟩
 .rcases t with rfl|rfl|rfl
  all_goals
   simp only[Int.reduceEq,if_true,if_false]at a;subst a;go_enter func288,ntmps288
   go_wp2_with fail
   first|(go_at_call 312;refine(qua rb s op P fS S _ _ st (H.X _) k (by rw[q9 o];decide)).mono ?_)|(go_at_call 313;refine(qnd rb s op P fE T _ st (H.X _) k (by rw[q9 o];decide)).mono ?_)
   rintro e w' g;rcases g.cases with⟨v,rfl,g⟩|⟨en,pl,rfl,g⟩
   .have HG:=qd (g.from ((Kept.refl rb w).alloc _))
    clear g
    go_wp2
    go_ret;exact q9 HG
   exact⟨rfl,g.from ((Kept.refl rb w).alloc _)⟩
 .have GD:=j ub
  clear j;rcases t with rfl|rfl|rfl|rfl
  all_goals
   simp only[Int.reduceEq,if_true,if_false]at a;subst a;go_enter func288,ntmps288
   go_wp2_with(go_at_call 81;refine be (yA rb s st _ H.size H.U.B (H.at'.X _ G) ud (H.err.alloc _)) ?_;rintro w1⟨d,b⟩;have W:w.1.size<w1.1.size:=(by have:=b.size;simp at this;omega);have q:∀i,w1.cell? ⟨w.1.size,i,O⟩=(#[I J st.tk.A,I J st.M,I J st.tk.K,Y (BS st.tk.V)]:Array Ap)[i]?:=(λi=>((jZ b).1 _ i uc n0).trans uc);have d:=qd d;have F:=qd (((Kept.refl rb w).alloc _).trans b);clear b)
   go_ret;exact⟨F.alloc _,_,rfl,IsNode.leafed ub _ _ _ _,d.X _ ub,q9 N,k,GD⟩
 .have GD:=j ue
  simp only[Int.reduceEq,if_true,if_false]at a;subst a;clear j;have Q:=qn1;go_enter func288,ntmps288
  go_wp2_with(go_at_call 83;refine be (qhv rb s st 9 _ H.size H.U.B (H.at'.X _ G) ud (H.err.alloc _) o) ?_;rintro w1⟨d,b⟩;have W:w.1.size<w1.1.size:=(by have:=b.size;simp at this;omega);have d:=qd d;have F:=qd (((Kept.refl rb w).alloc _).trans b);clear b;simp only[tkV])
  go_ret;exact⟨F.alloc _,_,rfl,IsNode.leafed ub _ _ _ _,d.X _ ub,q9 N,k,GD⟩
 rw[ak D,ak C,ak B,ak A,ak z,ak y,ak x,ak u]at a;subst a;have e1:=bh.2 D;have e2:=bh.2 C;have e3:=bh.2 B;have e4:=bh.2 A;have e5:=bh.2 z;have Z:=bh.2 y;have X:=bh.2 x;have U:=qd u;clear D C B A z y x u j;go_enter func288,ntmps288
 go_wp2_with(go_at_call 83;refine be (qpq rb s st 9 _ (H.at'.X _ G) ud (by rw[q9 o];exact q9 U)) λw1 b=>?_;simp only[ve])
 exact⟨rfl,((Kept.refl rb w).alloc _).trans b,rfl⟩
end Go.Proofs.YtdmmmgodfceilaaGreatDoor
