/- group and denial -/
import Derived.Test.YtmepkbgodcffoaaGreatDoorM14
import Derived.Test.YtmepkbgodcffoaaGreatDoorM11
import Derived.Deep.AppendLies
set_option maxHeartbeats 64000000
set_option maxRecDepth 100000
namespace Go.Proofs.YtmepkbgodcffoaaGreatDoor
open Go.RowKit Go.Proofs.Tryz
open _root_.List renaming length->A
open Go.World renaming setCell->B,ownsRow->ue
open Go.Value renaming ownBlock->ug,agg->Ai,bool->Ah,int->I,pointer->Ag,slice->C,string->Y,tuple->Aj
open Bool renaming false->uh,true->ui
open Go.Addr renaming mk->D
open _root_.Array renaming size->Z,toList->T
open Go renaming Value->Ap,World->Ao
open Go.Ending renaming returned->Ak
open Go.IntKind renaming i64->J
open Go.Obj renaming cells->Al
open Option renaming none->O,some->G
open Or renaming inl->Am,inr->An
variable{c':Array Ap}{l t:Ast}{N NB S X s:uj}{e:Ending}{c en k kind pl z:Int}{ts:List uk}{vs xs:List Ap}{L base g j n rb size:Nat}{fr':Nat×Nat}{o:Obj}{row:Option Nat}{r:Res}{st:St}{ty ty':TypeId}{iv lv nv v:Ap}{a w w':Ao}
def p9(s:ByteArray)(st:St):St:={ qh s st with op:=st.op+1 }
def vG(s:ByteArray)(f:St->Res)(st:St):Res:=if st.op=12 then .err 3 st.U else match f (p9 s st) with
 | .ok t st'=>if st'.tk.Q=27 then .ok t { qh s st' with op:=st.op } else .err 2 st'.U
 | .err en pl=>.err en pl
theorem Fine.op(h:Fine s st)(n:Nat):Fine s { st with op:=n }:=by grind[Fine]
theorem Fine.next(h:Fine s st):Fine s (qh s st):=qH s st h.H
theorem Fine.le(h:Fine s st)(b:st.tk.Q≠0):st.U<=(qh s st).U:=by grind[zN,St,Fine,qh]
theorem kv(h:Ready rb s w st)(k:Int):uo 81 #[Ag (G (D rb 0 O)),I J k] w λe w'=>Kept rb w w'/\(st.tk.Q=k/\e=Ak (tkV st.tk st.U)/\Ready rb s w' (qh s st)\/¬st.tk.Q=k/\e=vg 2 st.U):=by
 grind[qki,qt2,Ready.P,Fine.H,Fine.next,Ready,RdAt]
theorem qkj(h:Ready rb s w st)(d:st.tk.Q=k):uo 81 #[Ag (G (D rb 0 O)),I J k] w λe w'=>e=Ak (tkV st.tk st.U)/\Ready rb s w' (qh s st)/\Kept rb w w':=
 (qki rb s st k w h.size h.y.H h.at' h.lt h.err d).mono λ_ _ ⟨i,f,b⟩=>⟨i,h.P b f h.y.next,b⟩
theorem qt0(h:Ready rb s w st)(k:Int):uo 250 #[Ag (G (D rb 0 O)),I J k] w λe w'=>∃b st',e=Ak (Ah b)/\Kept rb w w'/\Ready rb s w' st'/\(b=ui/\st.tk.Q=k/\st'=qh s st\/b=uh/\¬st.tk.Q=k/\st'=st):=by
 grind[vsz,vmp,Calls.mono,Ready.size,Ready.at',Kept.refl,Ready.P,Fine.H,Fine.next,Ready,RdAt]
abbrev tkC(st:St):Array Ap:=#[I J st.tk.Q,I J st.U,I J st.tk.M,Y (BS st.tk.str)]
theorem qar(b:Kept rb (w.alloc (Al (tkC st) 154)) w')(n:¬Z w.1=rb):(∀i,w'.cell? ⟨Z w.1,i,O⟩=(tkC st)[i]?)/\Z w.1<Z w'.1:=by grind[jY,World.cell?_alloc_new,World.size_alloc,Kept]
theorem qis(h:Ready rb s w st)(b:st.op<=12):uo 208 #[Ag (G (D rb 0 O))] w λe w'=>Kept rb w w'/\(¬st.op=12/\e=Ak (tkV st.tk st.U)/\Ready rb s w' (p9 s st)\/st.op=12/\e=vg 3 st.U):=by
 grind[vi0,vhz,Ready.P,Fine.op,Fine.H,Fine.next,Ready,RdAt,p9]
theorem Gives.split{op d:Nat}(h:Gives rb s w op d r e w')(H:Ready rb s w st):Kept rb w w'/\((∃t st' b,r=.ok t st'/\e=Ak (Ag (G (D b 0 O)))/\IsNode rb w' (Ag (G (D b 0 O))) t/\Ready rb s w' st'/\st'.op=op/\d<=st'.U)\/∃en pl,r=.err en pl/\e=vg en pl):=by
 cases r<;>grind[IsNode.ptr,ErrOk.P,IsNode.P,Gives,Ready,Kept,IsNode]
theorem Ready.drew(h:Ready rb s w st):Ready rb s w.drew st:=h.P (Kept.refl _ _).drew (h.at'.h ((Below.refl (Z w.1) w).drew) h.lt) h.y
theorem qrj(rb:Nat)(s:uj)(op:Nat)(I4:op<=12)(f:St->Res)(T:op<12->xm 80 rb s (op+1) f)(w:Ao)(st:St)(h:Ready rb s w st)(P:st.op=op)(U:st.tk.Q≠0):
  uo 311 #[Ag (G (D rb 0 O))] w (Gives rb s w op st.U (vG s f st)):=by
 have H:=qd h;have m9:=h.y.le U;have HF:=qd T;obtain⟨R,x⟩:=ie (vG s f st);rw[x];have HR:=qd x;go_enter func311,ntmps311
 go_wp2_with(first|(go_at_call 208;refine(qis H uq).mono ?_;rintro e w1⟨A5,⟨F,rfl,C7⟩|⟨F,rfl⟩⟩;all_goals(have b:=qd A5;have q:=qd F);all_goals first|(have C:=qd C7;simp only[tkV])|simp only[vg])|(go_at_call 80;refine(HF (md (q9 q)) _ (p9 s st) C (by show st.op+1=op+1;omega)).mono ?_;rintro e w2 Q;obtain⟨B8,⟨t,Y,vb,hq,rfl,K9,C8,W,M7⟩|⟨en,pl,hq,rfl⟩⟩:=Q.split C;all_goals(replace b:=qd (b.trans B8);have HQ:=qd hq);all_goals first|(have B:=qd C8;have M:=qd K9;have Z:=qd W)|simp only[vg])|(refine(kv B 27).mono ?_;rintro e K⟨d,⟨A,rfl,u⟩|⟨A,rfl⟩⟩;all_goals(replace b:=qd (b.trans d);have i:=qd A);all_goals first|(have d6:K.cell? (D rb 6 O)=G (I J ((op:Int)+1)):=(by rw[u.at'.c6,vfa,q9 Z];simp);have dz:=u.at'.fz;have y:=qd u;have d:=qd d;simp only[tkV])|simp only[vg]))
 all_goals
  have E:=q9 HR;unfold vG at E
  first
  | (rw[bs (q9 q)]at E;subst E;exact⟨rfl,q9 b,rfl⟩)
  | (
   rw[ak (q9 q),q9 HQ]at E
   first
   | (
    have _q:=i
    dsimp only at E
    first
    | (rw[ak (q9 i)]at E;subst E;exact⟨rfl,q9 b,rfl⟩)
    | (
     rw[bs (q9 i)]at E;subst E;go_ret;have h1:=(q9 B).y.le (by rw[q9 i];decide);have h2:(p9 s st).U=(qh s st).U:=rfl
     exact⟨b.setCell 6 _,_,rfl,M.P (d.setCell 6 _),y.at'.setOp st.op _ uq,y.y.op _,P,by show st.U<=(qh s Y).U;omega⟩))
   | (subst E;exact⟨rfl,q9 b,rfl⟩))
theorem IsNode.one(b:IsNode rb w lv l)(f:rb<Z w.1)(op place:Int):
  IsNode rb ((w.alloc (Al #[lv] 91)).alloc (Al #[I J op,I J place,C (G ⟨Z w.1,0,O⟩) 1 1,I J 0,Y ⟨#[]⟩,Y ⟨#[]⟩,C O 0 0] 163))
   (Ag (G ⟨Z w.1+1,0,O⟩)) (.un ⟨op,place,0,[],[],[]⟩ l):=by
 have d:Kept rb w ((w.alloc (Al #[lv] 91)).alloc (Al #[I J op,I J place,C (G ⟨Z w.1,0,O⟩) 1 1,I J 0,Y ⟨#[]⟩,Y ⟨#[]⟩,C O 0 0] 163)):=((Kept.refl rb w).alloc _).alloc _;refine⟨Z w.1+1,Z w.1,lv,rfl,⟨uq,ur,ur,ur,ur,ur,by simp[BS],by simp[BS],C O 0 0,ur,Am ⟨rfl,rfl⟩⟩,f,ut, ?_,b.P d⟩;rw[bj _ _ _ ur,ce _ _ _ _ rfl];rfl
theorem qcb(rb:Nat)(x:Ast)(d:Ap)(place:Int)(w:Ao)(f:IsNode rb w d x)(i:rb<Z w.1):
  uo 209 #[d,I J place] w λe w'=>(∃v,e=Ak v/\IsNode rb w' v (.un ⟨5,place,0,[],[],[]⟩ x))/\Xb w w':=by
 obtain⟨b,rfl⟩:=f.ptr;have h:=qd f;go_enter func209,ntmps209
 go_wp2
 go_ret;exact⟨⟨_,rfl,h.one i 5 place⟩,qM _ _ _⟩
theorem Kept.grown(h:Kept rb a w)(b:w.grownBy w' row)(i:∀k,row=G k->Z a.1<=k):Kept rb a w':=
 ⟨b.os.trans h.os,b.tape.trans h.tape,b.output.trans h.output,bu h.size b.size,λk d f=>(b.block k (au d h.size) (λe=>by grind)).trans (h.block k d f)⟩
theorem RdAt.same(h:RdAt w rb s st)(b:w'.1[rb]?=w.1[rb]?):RdAt w' rb s st:=by
 grind[World.cell?,World.cell?_of_block,World.frozen?,Below.trans,RdAt,St]
theorem RdAt.grown(h:RdAt w rb s st)(b:w.grownBy w' row)(d:rb<Z w.1)(f:∀k,row=G k->rb<k):RdAt w' rb s st:=
 h.same (b.block rb d (λe=>by grind))
theorem gk{e:Nat}(h:ue w base e size v n xs)(d:Kept rb w w')(q:rb<base):ue w' base e size v n xs:=by
 refine⟨h.1, ?_⟩;obtain b|⟨g,cap,cur,rfl,f,i,rest⟩:=h.2;exact Am b;refine An ⟨g,cap,cur,rfl,f, ?_,rest⟩;rwa[d.block g (ch.1 i).1 uq]
def qx(ts:List (List UInt8)):List Ap:=ts.map λt=>Y (BS t)
theorem TextsAt.of_row{e:Nat}(h:ue w base e 1 v (A ts) (qx ts))(u:rb<base):TextsAt rb w v ts:=by
 have d:=h;obtain⟨hv,q⟩|⟨g,cap,cur,rfl,x,i,_⟩:=h.2
 grind[TextsAt]
 refine An ⟨g,cap,rfl,uq,(ch.1 i).1,λj t b=>?_⟩;have:=d.cells (g:=g) rfl j (Y (BS t)) (by simp[qx,b]);have f:(⟨g,0,O⟩:Addr).add j=⟨g,j,O⟩:=by grind[Addr.add]
 rwa [f]at this
theorem IsNode.texted{tv:Ap}(f:IsNode rb w lv l)(i:rb<Z w.1)(d:TextsAt rb w tv ts)(op place:Int)(str esc:uk):
  IsNode rb ((w.alloc (Al #[lv] 91)).alloc (Al #[I J op,I J place,C (G ⟨Z w.1,0,O⟩) 1 1,I J 0,Y (BS str),Y (BS esc),tv] 163))
   (Ag (G ⟨Z w.1+1,0,O⟩)) (.un ⟨op,place,0,str,esc,ts⟩ l):=by
 have b:Kept rb w ((w.alloc (Al #[lv] 91)).alloc (Al #[I J op,I J place,C (G ⟨Z w.1,0,O⟩) 1 1,I J 0,Y (BS str),Y (BS esc),tv] 163)):=((Kept.refl rb w).alloc _).alloc _;refine⟨Z w.1+1,Z w.1,lv,rfl,⟨uq,ur,ur,ur,ur,ur,ur,ur,tv,ur,d.P b⟩,i,ut, ?_,f.P b⟩;rw[bj _ _ _ ur,ce _ _ _ _ rfl];rfl
theorem Fine.lt(h:Fine s st)(b:st.tk.Q≠0):st.U<(qh s st).U:=au (h.long b) (zN s st)
theorem qmk(k p n:Int)(b:uj)(w:Ao):(Instr.field 154 (Ai #[I J k,I J p,I J n,Y b]) 3).run prog w=.ok (Y b) w:=uw
def xr(s:ByteArray)(l:Ast)(pl:Nat):Nat->List (List UInt8)->St->Res
 | 0,_,_=>.err 0 0
 | n+1,ts,st=>if st.tk.Q=28 then(if(qh s st).tk.Q=4 then xr s l pl n (ts++[(qh s st).tk.str]) (qh s (qh s st)) else .err 2 (qh s st).U)
   else if st.tk.Q=27 then .ok (.un ⟨21,pl,0,[],[],ts⟩ l) (qh s st) else .err 2 st.U
def y7(s:ByteArray)(l:Ast)(st:St):Res:=
 if(qh s st).tk.Q=26 then(if(qh s (qh s st)).tk.Q=4 then xr s l st.U (s.size+1) [(qh s (qh s st)).tk.str] (qh s (qh s (qh s st))) else .err 2 (qh s (qh s st)).U)
 else .err 2 (qh s st).U
theorem qeu{pl:Nat}(h:st.tk.Q=28)(b:(qh s st).tk.Q=4):xr s l pl (n+1) ts st=xr s l pl n (ts++[(qh s st).tk.str]) (qh s (qh s st)):=by simp_all [xr]
theorem qhd{pl:Nat}(h:st.tk.Q=28)(b:¬(qh s st).tk.Q=4):xr s l pl (n+1) ts st=.err 2 (qh s st).U:=by simp_all [xr]
theorem qhe{pl:Nat}(_:¬st.tk.Q=28)(b:st.tk.Q=27):xr s l pl (n+1) ts st=.ok (.un ⟨21,pl,0,[],[],ts⟩ l) (qh s st):=by simp_all [xr]
theorem qev{pl:Nat}(h:¬st.tk.Q=28)(b:¬st.tk.Q=27):xr s l pl (n+1) ts st=.err 2 st.U:=by simp_all [xr]
theorem vtf(w:Ao)(base:Nat)(b:base<=Z w.1)(t:uk):ue (w.alloc (Al #[Y (BS t)] 9)) base 9 1 (C (G ⟨Z w.1,0,O⟩) 1 1) (A [t]) (qx [t]):=
 ⟨rfl,An ⟨Z w.1,1,#[Y (BS t)],rfl,b,heap_alloc_new w _,ux,uu,rfl,rfl⟩⟩
def vP(s:ByteArray)(f:St->Res)(o:Int)(st:St):Res:=if st.op=12 then .err 3 st.U else match f (p9 s st) with
 | .ok x st'=>.ok (.un ⟨o,st.U,0,[],[],[]⟩ x) { st' with op:=st.op }
 | .err en pl=>.err en pl
theorem qyf(rb:Nat)(s:uj)(op:Nat)(I4:op<=12)(f:St->Res)(U:op<12->xm 286 rb s (op+1) f)(o:Int)(w:Ao)(st:St)(h:Ready rb s w st)(P:st.op=op)(W:st.tk.Q≠0):
  uo 310 #[Ag (G (D rb 0 O)),I J o] w (Gives rb s w op st.U (vP s f o st)):=by
 have H:=qd h;have A1:=h.lt;have m9:=h.y.le W;have HF:=qd U;obtain⟨R,u⟩:=ie (vP s f o st);rw[u];have HR:=qd u;go_enter func310,ntmps310
 go_wp2_with(first|(go_at_call 208;refine(qis H uq).mono ?_;rintro e F⟨q,⟨B,rfl,C7⟩|⟨B,rfl⟩⟩;all_goals(have B9:=q.size;have K:¬Z F.1=rb:=uq;have d:=qd B);all_goals first|(have b:=qd (q.alloc (Al (tkC st) 154));have A:=qd (C7.N (Al (tkC st) 154));simp only[tkV])|(have b:=qd q;simp only[vg]))|(refine(HF (md (q9 d)) _ (p9 s st) A (by show st.op+1=op+1;omega)).mono ?_;rintro e w2 T;obtain⟨C,⟨x,N0,vb,hq,rfl,K9,i,Y,M7⟩|⟨en,pl,hq,rfl⟩⟩:=T.split A;all_goals(replace b:=qd (b.trans C);have HQ:=qd hq;obtain⟨q2,D8⟩:=qar C K;have L5:rb<Z w2.1:=uq);all_goals first|(have d6:w2.cell? (D rb 6 O)=G (I J ((op:Int)+1)):=(by rw[i.at'.c6,Y];simp);have dz:=i.at'.fz;have y:=qd i;have M:=qd K9)|simp only[vg]))
 all_goals
  have E:=q9 HR;unfold vP at E
  first
  | (rw[bs (q9 d)]at E;subst E;exact⟨rfl,q9 b,rfl⟩)
  | (
   rw[ak (q9 d),q9 HQ]at E;subst E
   first
   | exact⟨rfl,q9 b,rfl⟩
   | (
    go_ret;have h2:(p9 s st).U=(qh s st).U:=rfl;have Q:=IsNode.one (M.P ((Kept.refl rb w2).setCell 6 (I J (op:Int)))) (by rwa[size_setCell]) o st.U
    exact⟨((b.setCell 6 _).alloc _).alloc _,_,rfl,by simpa using Q,((y.at'.setOp st.op _ uq).N _ (by simpa using L5)).N _ ut,y.y.op _,P,by show st.U<=N0.U;omega⟩))
def gM(o:Int)(st:St)(num:Int)(str:List UInt8):Ast:=.leaf ⟨o,st.U,num,str,[],[]⟩
def jc(s:ByteArray)(fS fE:St->Res)(st:St):Res:=
 if st.tk.Q=22 then vP s fS 14 st else if st.tk.Q=23 then vP s fS 15 st else if st.tk.Q=26 then vG s fE st
 else if st.tk.Q=2 then .ok (gM 0 st 0 st.tk.str) (qh s st)
 else if st.tk.Q=3 then .ok (gM 1 st st.tk.M []) (qh s st)
 else if st.tk.Q=4 then .ok (gM 2 st 0 st.tk.str) (qh s st)
 else if st.tk.Q=8 then .ok (gM 3 st 0 []) (qh s st)
 else if st.tk.Q=9 then .ok (gM 4 st 0 []) (qh s st) else .err 2 st.U
theorem IsNode.leafed(b:rb<Z w.1)(op place num:Int)(str:uk):
  IsNode rb (w.alloc (Al #[I J op,I J place,C O 0 0,I J num,Y (BS str),Y ⟨#[]⟩,C O 0 0] 163))
   (Ag (G ⟨Z w.1,0,O⟩)) (.leaf ⟨op,place,num,str,[],[]⟩):=
 ⟨Z w.1,rfl,⟨b,ur,ur,ur,ur,ur,ur,by simp[BS],C O 0 0,ur,Am ⟨rfl,rfl⟩⟩⟩
theorem qr7(k p n:Int)(b:uj)(w:Ao):(Instr.field 154 (Ai #[I J k,I J p,I J n,Y b]) 1).run prog w=.ok (I J p) w:=uw
theorem qpb(rb:Nat)(s:uj)(op:Nat)(I4:op<=12)(fS fE:St->Res)(hS:op<12->xm 286 rb s (op+1) fS)(hE:op<12->xm 80 rb s (op+1) fE):xm 286 rb s op (jc s fS fE):=by
 intro w st h B;have H:=qd h;have HS:=qd hS;have HE:=qd hE;have A1:=h.lt;have n0:¬Z w.1=rb:=uq;have u:st.tk.Q≠0->st.U<=(qh s st).U:=h.y.le;have A:=qd h.y.next;obtain⟨c0,c1,c2,c3,c4,c5,c6,fz⟩:=h.at';clear h hS hE;obtain⟨K,C⟩:=ie st.tk.Q;obtain⟨R,b⟩:=ie (jc s fS fE st);have E:∀c:Int,(st.tk.Q==c)=(K==c):=λc=>by rw[C]
 rw[b];unfold jc at b;rw[C]at b u;have D:=qd C;clear C;rcases(show(K=22\/K=23\/K=26)\/(K=2\/K=3\/K=4\/K=8)\/K=9\/(¬K=22/\¬K=23/\¬K=26/\¬K=2/\¬K=3/\¬K=4/\¬K=8/\¬K=9) by omega) with F|F|rfl|⟨h1,W,U,T,Q,P,M,G⟩
 .obtain rfl|rfl|rfl:=F
  all_goals
   simp only[Int.reduceEq,if_true,if_false]at b;subst b;go_enter func286,ntmps286
   go_wp2_with fail
   first|(go_at_call 310;refine(qyf rb s op I4 fS HS _ _ st (H.N _) B (by rw[q9 D];decide)).mono ?_)|(go_at_call 311;refine(qrj rb s op I4 fE HE _ st (H.N _) B (by rw[q9 D];decide)).mono ?_)
   rintro e w' x;obtain⟨v,rfl,x⟩|⟨en,pl,rfl,x⟩:=x.cases
   .have HG:=qd (x.from ((Kept.refl rb w).alloc _))
    clear x
    go_wp2
    go_ret;exact q9 HG
   exact⟨rfl,x.from ((Kept.refl rb w).alloc _)⟩
 .have KG:=u uq
  clear u;obtain rfl|rfl|rfl|rfl:=F
  all_goals
   simp only[Int.reduceEq,if_true,if_false]at b;subst b;go_enter func286,ntmps286
   go_wp2_with(go_at_call 79;refine be (yY rb s st _ H.size H.y.H (H.at'.N _ A1) ut (H.err.alloc _)) ?_;rintro y⟨f,d⟩;have B9:Z w.1<Z y.1:=(by have:=d.size;simp at this;omega);have q:∀i,y.cell? ⟨Z w.1,i,O⟩=(#[I J st.tk.Q,I J st.U,I J st.tk.M,Y (BS st.tk.str)]:Array Ap)[i]?:=(λi=>((jY d).1 _ i ur n0).trans ur);have f:=qd f;have bE:=qd (((Kept.refl rb w).alloc _).trans d);clear d)
   go_ret;exact⟨bE.alloc _,_,rfl,IsNode.leafed uq _ _ _ _,f.N _ uq,q9 A,B,KG⟩
 .have KG:=u uu
  simp only[Int.reduceEq,if_true,if_false]at b;subst b;clear u;have hfd:=qr7;go_enter func286,ntmps286
  go_wp2_with(go_at_call 81;refine be (qki rb s st 9 _ H.size H.y.H (H.at'.N _ A1) ut (H.err.alloc _) D) ?_;rintro y⟨f,d⟩;have B9:Z w.1<Z y.1:=(by have:=d.size;simp at this;omega);have f:=qd f;have bE:=qd (((Kept.refl rb w).alloc _).trans d);clear d;simp only[tkV])
  go_ret;exact⟨bE.alloc _,_,rfl,IsNode.leafed uq _ _ _ _,f.N _ uq,q9 A,B,KG⟩
 rw[ak h1,ak W,ak U,ak T,ak Q,ak P,ak M,ak G]at b;subst b;have e1:=aw.2 h1;have e2:=aw.2 W;have e3:=aw.2 U;have e4:=aw.2 T;have e5:=aw.2 Q;have e6:=aw.2 P;have e7:=aw.2 M;have H9:=qd G;clear h1 W U T Q P M G u;go_enter func286,ntmps286
 go_wp2_with(go_at_call 81;refine be (qt2 rb s st 9 _ (H.at'.N _ A1) ut (by rw[q9 D];exact q9 H9)) λy d=>?_;simp only[vg])
 exact⟨rfl,((Kept.refl rb w).alloc _).trans d,rfl⟩
def jM(s:ByteArray)(fD fT:St->Res)(st:St):Res:=if st.tk.Q=7 then vP s fD 5 st else fT st
theorem qwe(rb:Nat)(s:uj)(op:Nat)(I4:op<=12)(f:St->Res)(Y:op<12->xm 168 rb s (op+1) f)(w:Ao)(st:St)(h:Ready rb s w st)(U:st.op=op)(u:st.tk.Q=7):
  uo 168 #[Ag (G (D rb 0 O))] w (Gives rb s w op st.U (vP s f 5 st)):=by
 have H:=qd h;have A1:=h.lt;have Z9:st.tk.Q≠0:=by rw[u];decide
 have e7:(st.tk.Q != 7)=uh:=by rw[u];rfl
 obtain⟨c0,c1,c2,c3,c4,c5,c6,fz⟩:=h.at';clear u;have m9:=h.y.le Z9;have HF:=qd Y;obtain⟨R,B⟩:=ie (vP s f 5 st);rw[B];have HR:=qd B;go_enter func168,ntmps168
 go_wp2_with(first|(go_at_call 208;refine(qis H uq).mono ?_;rintro e P⟨A,⟨K,rfl,C7⟩|⟨K,rfl⟩⟩;all_goals(have B9:=A.size;have Q:¬Z P.1=rb:=uq;have i:=qd K);all_goals first|(have b:=qd (A.alloc (Al (tkC st) 154));have F:=qd (C7.N (Al (tkC st) 154));simp only[tkV])|(have b:=qd A;simp only[vg]))|(go_at_call 168;refine(HF (md (q9 i)) _ (p9 s st) F (by show st.op+1=op+1;omega)).mono ?_;rintro e w2 W;obtain⟨M,⟨x,N0,vb,hq,rfl,K9,y,U3,M7⟩|⟨en,pl,hq,rfl⟩⟩:=W.split F;all_goals(replace b:=qd (b.trans M);have HQ:=qd hq;obtain⟨q2,D8⟩:=qar M Q;have L5:rb<Z w2.1:=uq);all_goals first|(have d6:w2.cell? (D rb 6 O)=G (I J ((op:Int)+1)):=(by rw[y.at'.c6,U3];simp);have dz:=y.at'.fz;have C:=qd y;have T:=qd K9)|simp only[vg])|(go_at_call 209;refine(qcb rb x _ _ _ (T.P ((Kept.refl rb w2).setCell 6 _)) (by rwa[size_setCell])).mono ?_;rintro e w3⟨⟨v3,rfl,q⟩,d⟩;have q:=qd q;have d:=qd d))
 all_goals
  have E:=q9 HR;unfold vP at E
  first
  | (rw[bs (q9 i)]at E;subst E;exact⟨rfl,q9 b,rfl⟩)
  | (
   rw[ak (q9 i),q9 HQ]at E;subst E
   first
   | exact⟨rfl,q9 b,rfl⟩
   | (
    go_ret;have h2:(p9 s st).U=(qh s st).U:=rfl
    exact⟨(b.setCell 6 _).trans (Kept.x d),_,rfl,q9 q,(C.at'.setOp st.op _ uq).h d (by simpa using L5),C.y.op _,U,by show st.U<=N0.U;omega⟩))
theorem qmd(rb:Nat)(s:uj)(op:Nat)(x:op<=12)(d i:St->Res)(u:op<12->xm 168 rb s (op+1) d)(q:xm 207 rb s op i):xm 168 rb s op (jM s d i):=by
 intro w st h f
 by_cases h7:st.tk.Q=7
 rw[jM,bs h7];exact qwe rb s op x d u w st h f h7;rw[jM,ak h7];obtain⟨c0,E,D,C,c4,B,A,fz⟩:=h.at';have H:=qd h;have y:=qd q;go_enter func168,ntmps168
 go_wp2_with fail
 refine(y _ st H f).mono ?_;rintro e w' b;obtain⟨v,rfl,b⟩|⟨en,pl,rfl,b⟩:=b.cases
 .have HG:=qd b
  go_wp2
  go_ret;exact q9 HG
 exact⟨rfl,b⟩
def vcp(st:St)(l:Ast):Ast:=.un ⟨23,st.U,0,[],[],[]⟩ l
def jy(s:ByteArray)(l:Ast)(st:St):Res:=
 if(qh s st).tk.Q=7 then(if(qh s (qh s st)).tk.Q=15 then .ok (.un ⟨5,st.U,0,[],[],[]⟩ (vcp st l)) (qh s (qh s (qh s st))) else .err 2 (qh s (qh s st)).U)
 else if(qh s st).tk.Q=15 then .ok (vcp st l) (qh s (qh s st)) else .err 2 (qh s st).U
theorem qwy(rb:Nat)(s:uj)(op:Nat)(l:Ast)(lv:Ap)(w:Ao)(st:St)(h:Ready rb s w st)(U:st.op=op)(B:IsNode rb w lv l)(F:st.tk.Q=14):
  uo 227 #[Ag (G (D rb 0 O)),lv] w (Gives rb s w op st.U (jy s l st)):=by
 have H:=qd h;have A1:=h.lt;have YK:=h.y.le (by rw[F];decide);have K:=qd F;obtain⟨lb,rfl⟩:=B.ptr;have HL:=qd B;obtain⟨R,C⟩:=ie (jy s l st);rw[C];have HR:=qd C;clear h B F C;go_enter func227,ntmps227
 go_wp2_with(first|(go_at_call_of 81 (I IntKind.i64 14);refine be (qkj H K) ?_;rintro y⟨C7,A5⟩;have B9:=A5.size;have T:¬Z y.1=rb:=uq;have Y:=qd (C7.N (Al (tkC st) 154));have bE:=qd (A5.alloc (Al (tkC st) 154));simp only[tkV])|(go_at_call 250;refine(qt0 Y 7).mono ?_;rintro e w2⟨b,N0,rfl,P,C8,d⟩;obtain⟨q2,D8⟩:=qar P T;have lG:=qd (bE.trans P);have W:=qd C8;have H7:=qd d;clear C8 P d)|(go_at_call_of 81 (I IntKind.i64 15);refine(kv W 15).mono ?_;rintro e Q⟨M,⟨q,rfl,F3⟩|⟨q,rfl⟩⟩;all_goals(have S4:Z y.1<Z Q.1:=(md M.size);have q3:∀i,Q.cell? ⟨Z y.1,i,O⟩=(tkC st)[i]?:=(λi=>((jY M).1 _ i D8 T).trans (q2 i));have f:=qd (lG.trans M);have J:=qd q;first|(have u:=qd F3;simp only[tkV])|simp only[vg]))|(go_at_call 209;refine(qcb rb (vcp st l) _ _ _ (IsNode.one (HL.P f) uq 23 st.U) ut).mono ?_;rintro e w4⟨⟨v4,rfl,A⟩,x⟩;have A:=qd A;have x:=qd x))
 all_goals
  have E:=q9 HR;have q:=q9 J;have h0:=(q9 Y).y;have h2:=(q9 W).y;rw[jy]at E;obtain⟨rfl,d,rfl⟩|⟨rfl,d,rfl⟩:=q9 H7
  all_goals
   first|rw[bs d]at E|rw[ak d]at E
   first|rw[bs q]at E|rw[ak q]at E
   subst E
   first
   | contradiction
   | exact⟨rfl,q9 f,rfl⟩
   | (
    go_ret;have:=h2.le uq
    first
    | (
     have:=h0.le uq
     exact⟨((f.alloc _).alloc _).trans (Kept.x x),_,rfl,q9 A,((u.at'.N _ uq).N _ ut).h x ut,u.y,U,uq⟩)
    | exact⟨(f.alloc _).alloc _,_,rfl,IsNode.one (HL.P f) uq 23 st.U,(u.at'.N _ uq).N _ ut,u.y,U,uq⟩)
def qY(s:ByteArray)(f:St->Res)(l:Ast)(st:St):Res:=if st.tk.Q=10 then(match f (qh s st) with
  | .ok lo A9=>if A9.tk.Q=5 then(match f (qh s A9) with
    | .ok hi N0=>.ok (.tri ⟨20,st.U,0,[],[],[]⟩ l lo hi) N0
    | .err en pl=>.err en pl) else .err 2 A9.U
  | .err en pl=>.err en pl) else .err 2 st.U
theorem IsNode.three{x y z:Ast}{f d b:Ap}(A:IsNode rb w f x)(u:IsNode rb w d y)(q:IsNode rb w b z)(B:rb<Z w.1)(op place:Int):
  IsNode rb ((w.alloc (Al #[f,d,b] 91)).alloc (Al #[I J op,I J place,C (G ⟨Z w.1,0,O⟩) 3 3,I J 0,Y ⟨#[]⟩,Y ⟨#[]⟩,C O 0 0] 163))
   (Ag (G ⟨Z w.1+1,0,O⟩)) (.tri ⟨op,place,0,[],[],[]⟩ x y z):=by
 have i:Kept rb w ((w.alloc (Al #[f,d,b] 91)).alloc (Al #[I J op,I J place,C (G ⟨Z w.1,0,O⟩) 3 3,I J 0,Y ⟨#[]⟩,Y ⟨#[]⟩,C O 0 0] 163)):=((Kept.refl rb w).alloc _).alloc _;refine⟨Z w.1+1,Z w.1,f,d,b,rfl,⟨uq,ur,ur,ur,ur,ur,by simp[BS],by simp[BS],C O 0 0,ur,Am ⟨rfl,rfl⟩⟩,B,ut, ?_, ?_, ?_,A.P i,u.P i,q.P i⟩
 all_goals grind[World.alloc,World.cell?_alloc_past,World.cell?_alloc_at]
theorem qqc(rb:Nat)(s:uj)(op:Nat)(f:St->Res)(hf:xm 226 rb s op f)(l:Ast)(lv:Ap)(w:Ao)(st:St)(h:Ready rb s w st)(ho:st.op=op)(T:IsNode rb w lv l):
  uo 253 #[Ag (G (D rb 0 O)),lv] w (Gives rb s w op st.U (qY s f l st)):=by
 have H:=qd h;have HF:=qd hf;have A1:=h.lt;obtain⟨lb,rfl⟩:=T.ptr;have HL:=qd T;obtain⟨R,U⟩:=ie (qY s f l st);rw[U];have HR:=qd U;clear h T hf U;go_enter func253,ntmps253
 go_wp2_with(first|(go_at_call_of 81 (I IntKind.i64 10);refine(kv H 10).mono ?_;rintro e u⟨P,⟨F,rfl,C7⟩|⟨F,rfl⟩⟩;all_goals(have B9:=P.size;have Q:¬Z u.1=rb:=uq;have q:=qd F;clear F);all_goals first|(have d:=qd (P.alloc (Al (tkC st) 154));have Y8:=qd (C7.N (Al (tkC st) 154));clear C7 P;simp only[tkV])|(have d:=qd P;simp only[vg]))|(go_at_call 226;refine(HF _ (qh s st) Y8 ho).mono ?_;rintro e w2 hg;obtain⟨B8,⟨lo,A9,vb,hq,rfl,K9,C8,U3,M7⟩|⟨en,pl,hq,rfl⟩⟩:=hg.split Y8;all_goals(replace d:=qd (d.trans B8);have HQ:=qd hq;obtain⟨q2,D8⟩:=qar B8 Q;clear B8 hg hq);all_goals first|(have aW:=qd C8;have mF:=qd K9;clear C8 K9)|simp only[vg])|(go_at_call_of 81 (I IntKind.i64 5);refine(kv aW 5).mono ?_;rintro e A⟨y,⟨C,rfl,F3⟩|⟨C,rfl⟩⟩;all_goals(replace d:=qd (d.trans y);have M:=qd C;have S4:Z u.1<Z A.1:=(md y.size);have q3:Xc A (Z u.1) 1 (I J st.U):=((jY y).1 _ 1 D8 Q).trans (q2 1);clear C);all_goals first|(have VI:=qd (mF.P y);have eL:=qd F3.drew;clear F3 y;simp only[tkV])|simp only[vg]))
 all_goals
  have E:=q9 HR;unfold qY at E
  first
  | (rw[ak (q9 q)]at E;subst E;exact⟨rfl,q9 d,rfl⟩)
  | (
   rw[bs (q9 q),q9 HQ]at E
   first
   | (
    have _q:=M
    dsimp only at E
    first
    | (rw[ak (q9 M)]at E;subst E;exact⟨rfl,q9 d,rfl⟩)
    | (
     rw[bs (q9 M)]at E;have K:=qd (HF _ (qh s A9) eL U3);have F:=(q9 H).y.le (by rw[q9 q];decide);have C:=(q9 aW).y.le (by rw[q9 M];decide)
     cases fY:f (qh s A9) with
     | err en pl=>
      rw[fY]at E K;subst E;clear fY
      go_region_with(go_at_call 226;refine K.mono ?_;rintro e x⟨b,rfl⟩;refine vw8 (w:=x) ⟨rfl,d.trans ((Kept.refl rb A).drew.trans b),rfl⟩ ?_)
      all_goals trivial
     | ok hi N0=>
      rw[fY]at E K;subst E;clear fY
      go_region_held3 (λw'=>Xc w' (Z u.1) 1 (I J st.U)) (go_keep) (first|(go_at_call 226;refine K.mono ?_;rintro e x⟨b,v4,rfl,B,W,Y,CD,eF⟩;obtain⟨vc,rfl⟩:=B.ptr;have q4:Xc x (Z u.1) 1 (I J st.U):=((jY b).1 _ 1 S4 Q).trans q3;have MG:Z u.1<Z x.1:=au S4 b.size;have b:=qd b;have B:=qd B;have W:=qd W;have Y:=qd Y))
      go_wp2
      go_ret;have b:=(Kept.refl rb A).drew.trans b;have i:=(q9 d).trans b;have wI:rb<Z x.1:=au A1 i.size
      exact⟨(i.alloc _).alloc _,_,rfl,IsNode.three (HL.P i) (VI.P b) B wI 20 st.U,(W.N _ wI).N _ ut,q9 Y,CD,uq⟩))
   | (subst E;exact⟨rfl,q9 d,rfl⟩))
def qkw(K:Nat)(rb:Nat)(s:ByteArray)(op:Nat)(k:Int)(g:Ast->St->Res):Prop:=
 ∀(w:Ao) (st:St) (l:Ast) (lv:Ap),Ready rb s w st->st.op=op->IsNode rb w lv l->st.tk.Q=k->Calls prog K #[Ag (G (D rb 0 O)),lv] w (Gives rb s w op st.U (g l st))
def vD(s:ByteArray)(f:St->Res)(gI gL:Ast->St->Res)(bare:Bool)(l:Ast)(st:St):Res:=
 if st.tk.Q=11/\bare=ui then gI l st else if st.tk.Q=12/\bare=ui then gL l st else qY s f l st
theorem qf5(rb:Nat)(s:uj)(op:Nat)(f:St->Res)(q i:Ast->St->Res)(C:xm 226 rb s op f)(H:qkw 251 rb s op 11 q)(E:qkw 252 rb s op 12 i)
  (bare:Bool) (w:Ao) (st:St) (l:Ast) (lv:Ap) (h:Ready rb s w st) (u:st.op=op) (x:IsNode rb w lv l) :
  uo 228 #[Ag (G (D rb 0 O)),lv,Ah bare] w (Gives rb s w op st.U (vD s f q i bare l st)):=by
 obtain⟨c0,W,U,T,c4,Q,P,fz⟩:=h.at';have BET:=qd (qqc rb s op f C l lv w st h u x);have INN:Hid (st.tk.Q=11->uo 251 #[Ag (G (D rb 0 O)),lv] w (Gives rb s w op st.U (q l st))):=qd λy=>H w st l lv h u x y
 have LIK:Hid (st.tk.Q=12->uo 252 #[Ag (G (D rb 0 O)),lv] w (Gives rb s w op st.U (i l st))):=qd λy=>E w st l lv h u x y
 obtain⟨R,b⟩:=ie (vD s f q i bare l st);obtain⟨K,F⟩:=ie st.tk.Q;rw[b];unfold vD at b;rw[F]at b INN LIK;rcases(show K=11\/K=12\/¬K=11/\¬K=12 by omega) with rfl|rfl|⟨B,A⟩<;>cases bare
 all_goals
  try have M:=aw.2 B
  try have J:=aw.2 A
  try rw[bs ⟨rfl,rfl⟩]at b
  try rw[ak (by simp[*])]at b
  try rw[bs ⟨rfl,rfl⟩]at b
  try rw[ak (by simp[*])]at b
  subst b
  try clear B A
  go_enter func228,ntmps228
  go_wp2_with((first|(go_at_call 253;refine BET.mono ?_)|(go_at_call 251;refine(INN rfl).mono ?_)|(go_at_call 252;refine(LIK rfl).mono ?_));rintro e w' d;obtain⟨v,rfl,d⟩|⟨en,pl,rfl,d⟩:=d.cases;rotate_left;(exact⟨rfl,d⟩);have I:=qd d)
  go_ret;exact q9 I
theorem qey:(prog.info? 9).map (λi=>(i.zero,i.size,i.bytes))=G (G (Y ⟨#[]⟩),1,16):=uw
theorem qjo{e:Nat}(h:ue w base e size v n xs):∃a m c,v=C a m c:=by
 obtain⟨rfl,_⟩|⟨g,cap,cur,rfl,_⟩:=h.2<;>grind
theorem vqv{b:Nat}{wr i d:Ao}{f:St}{v':Ap}{t:uk}{pv:Ap}
  (K:ue d (b+1) 9 1 v' (A ts+1) (qx ts++[Y (BS t)])) (q:(i.alloc o).grownBy d (ug v)) (D:ue wr (b+1) 9 1 v (A ts) (qx ts))
  (y:RdAt i rb s f) (E:rb<Z i.1) (B:Kept rb w wr) (x:Kept rb wr i) (F:Xc wr b 1 pv) (O:b<Z wr.1) (J:rb<b) (I:Z w.1<=b) :
  ue d (b+1) 9 1 v' (A (ts++[t])) (qx (ts++[t]))/\RdAt d rb s f/\Kept rb w d/\Xc d b 1 pv/\b<Z d.1:=by
 have M:∀k,ug v=G k->b+1<=k:=λk u=>(D.lt k u).1
 have H:=x.size;have C:=q.size;simp at C;refine⟨by rwa[cd,qx,dq],(y.N o E).grown q ut (λk u=>by grind),((B.trans x).alloc o).grown q (λk u=>by grind), ?_,uq⟩;refine q.cell ?_ (λe=>by grind)
 grind[World.cell?_alloc_past,jY]
theorem vip(rb:Nat)(s:uj)(op:Nat)(hs:s.size<=200):qkw 251 rb s op 11 (y7 s):=by
 intro w st l lv h ho hl V8;have H:=qd h;have A1:=h.lt;have YK:=h.y.lt (by rw[V8];decide);have G4:=h.y.next;have H11:=qd V8;obtain⟨lb,rfl⟩:=hl.ptr;have HL:=qd hl;have P9:(qh s st).tk.Q=26->(qh s st).U<(qh s (qh s st)).U:=λh=>G4.lt (by rw[h];decide)
 have mT:(qh s (qh s st)).tk.Q=4->(qh s (qh s st)).U<(qh s (qh s (qh s st))).U:=λh=>G4.next.lt (by rw[h];decide)
 have HF:=qd (And.intro P9 mT);obtain⟨i0,hi,F5,rN,rM⟩:=info_parts qey;obtain⟨R,y⟩:=ie (y7 s l st);rw[y];unfold y7 at y;have Q:=qd y;have FS:=λb=>qmk (qh s (qh s st)).tk.Q (qh s (qh s st)).U (qh s (qh s st)).tk.M b
 clear h hl V8 y G4 P9 mT;go_enter func251,ntmps251
 go_wp2_with(first|(go_at_call_of 81 (I IntKind.i64 11);refine be (qkj H H11) ?_;rintro u⟨C7,A5⟩;have B9:=A5.size;have n1:¬Z u.1=rb:=uq;have Y8:=qd (C7.N (Al (tkC st) 154));have i:=qd (A5.alloc (Al (tkC st) 154));simp only[tkV])|(go_at_call_of 81 (I IntKind.i64 26);refine(kv Y8 26).mono ?_;rintro e w2⟨B8,⟨dM,rfl,C8⟩|⟨dM,rfl⟩⟩;all_goals(obtain⟨q2,D8⟩:=qar B8 n1;replace i:=qd (i.trans B8);have U:=qd dM;clear B8 dM);all_goals first|(have aW:=qd C8;simp only[tkV])|simp only[vg])|(go_at_call_of 81 (I IntKind.i64 4);refine(kv aW 4).mono ?_;rintro e w3⟨F2,⟨h4,rfl,F3⟩|⟨h4,rfl⟩⟩;all_goals(have S4:Z u.1<Z w3.1:=(md F2.size);have q3:w3.cell? ⟨Z u.1,1,O⟩=G (I J st.U):=((jY F2).1 _ 1 D8 n1).trans (q2 1);replace i:=qd (i.trans F2);have H4:=qd h4;clear F2 h4);all_goals first|(have eL:=qd F3;simp only[tkV])|simp only[vg]))
 rotate_left
 iterate 2
  have E:=q9 Q
  first
  | (rw[ak (q9 U)]at E;subst E;exact⟨rfl,q9 i,rfl⟩)
  | (rw[bs (q9 U),ak (q9 H4)]at E;subst E;exact⟨rfl,q9 i,rfl⟩)
 have E:=q9 Q;rw[bs (q9 U),bs (q9 H4)]at E;have hle2:=(q9 HF).1 U;have hle3:=(q9 HF).2 H4;replace Q:=qd E
 go_loopw [6] (λv wr=>∃(n:Nat) (ts:List uk) (d:St),Hid (R=xr s l st.U n ts d)/\s.size<n+d.U/\Hid (ue wr (Z u.1+1) 9 1 v (A ts) (qx ts))/\Hid (Ready rb s wr d)/\d.op=op/\A ts<=d.U/\st.U<=d.U/\Hid (Kept rb w wr)/\wr.cell? ⟨Z u.1,1,O⟩=G (I J st.U)/\Z u.1<Z wr.1) (λv wr=>s.size+1 - vwb wr rb)
 case atStart=>exact⟨s.size+1,_,_,qd Q.symm,uq,qd (vtf _ _ uq _),qd (eL.N _),ho,ut,uq,qd (i.alloc _),by rwa[bj _ _ _ (by first|omega|(simp;omega))],ut⟩
 clear i Q Y8 aW eL FS;obtain⟨n,ts,d,y,hn,T,W,nX,U0,J5,i,mV,AH⟩:=hrel;have O4:=(q9 W).y;have UO:=O4.U;obtain⟨m,rfl⟩:∃m,n=m+1:=⟨n - 1,uq⟩;have iE:=(q9 W).lt;have HPL:=qd (qjp W.at');have K0:rb<Z u.1+1:=uq;have P:=qd O4;have FS:=λb=>qmk (qh s d).tk.Q (qh s d).U (qh s d).tk.M b
 clear O4;obtain⟨va,vn,vc,rfl⟩:=qjo T
 go_wp2_with(first|(go_at_call 250;refine(qt0 W 28).mono ?_;rintro e w4⟨b,st4,rfl,L0,R7,f⟩;have MA:=qd f;have dD:=qd L0;have DA:=qd R7;clear f R7 L0)|(go_at_call_of 81 (I IntKind.i64 4);refine(kv DA 4).mono ?_;rintro e w5⟨M,⟨B,rfl,K⟩|⟨B,rfl⟩⟩;all_goals(have q:=qd (dD.trans M);have C:=qd B;clear M B);all_goals first|(obtain⟨_,f,N7⟩:b=ui/\d.tk.Q=28/\st4=qh s d:=(by obtain h|⟨rfl,_⟩:=q9 MA;exact h;contradiction);subst N7;have rL:=(q9 q).size;have mP:=gk T q K0;have HX:=qd (And.intro f (P.lt (by rw[f];decide)));have D:=qd K;clear K f;simp only[tkV])|simp only[vg])|(at_builtin;refine wpList_append_own _ rfl _ _ 31 rfl (Z u.1+1) 9 i0 (Y ⟨#[]⟩) 1 16 underlying31 hi F5 rN rM rfl uu _ _ _ rfl (mP.alloc _) ⟨Z w5.1,0,O⟩ 1 1 [Y (BS (qh s d).tk.str)] rfl rfl ?c1 ?c2 ?c3 ?c4 ?c5 ?_)|(go_at_call_of 81 (I IntKind.i64 27);refine(kv DA 27).mono ?_;rintro e w5⟨M,⟨dL,rfl,K⟩|⟨dL,rfl⟩⟩;all_goals(have q:=qd (dD.trans M);have DV:=qd dL;have q5:w5.cell? ⟨Z u.1,1,O⟩=G (I J st.U):=((jY q).1 _ 1 AH n1).trans mV;have rL:=(q9 q).size;clear M dL);all_goals first|(have D:=qd K;clear K;simp only[tkV])|simp only[vg]))
 case c2=>rfl
 case c3=>unfold maxLen;omega
 case c4=>omega
 case c5=>omega
 .intro v' w6 J0 A4 _
  have x:=vqv J0 A4 T D.at' D.lt i q mV AH uq uq;clear J0 A4 T mP;have IX:=qd (qjp x.2.1);have x:=qd x;obtain⟨f,lC⟩:=q9 HX;have CH:=(q9 P).next.lt (by rw[q9 C];decide);have hl3:=(q9 P).next.next.U;have dC:Hid (R=xr s l st.U m (ts++[(qh s d).tk.str]) (qh s (qh s d))):=qd (by rw[q9 y,qeu f (q9 C)]);clear f
  go_wp2
  go_roundw
  exact⟨m,_,_,dC,uq,qd x.1,qd (H.P x.2.2.1 x.2.1 P.next.next),nX,ut,uq,qd x.2.2.1,x.2.2.2.1,x.2.2.2.2⟩;rw[q9 HPL,q9 IX];omega
 all_goals
  have E:=q9 y;obtain⟨rfl,f,rfl⟩|⟨rfl,f,rfl⟩:=q9 MA
  all_goals first
  | contradiction
  | (rw[qhd f (q9 C)]at E;subst E;exact⟨rfl,i.trans q,rfl⟩)
  | (rw[qev f (q9 DV)]at E;subst E;exact⟨rfl,i.trans q,rfl⟩)
  | (
   rw[qhe f (q9 DV)]at E;subst E;go_ret;have KG:=(q9 P).lt (by rw[q9 DV];decide);have oB:=(q9 D).lt;have F:=(q9 i).trans q
   exact⟨(F.alloc _).alloc _,_,rfl,IsNode.texted (HL.P F) oB ((TextsAt.of_row T K0).P q) 21 st.U [] [],(D.at'.N _ oB).N _ ut,D.y,nX,uq⟩)
theorem qfr:(l:uk)->∀r,vu l=G r->A r.1<=A l
 | [],r,h=>by simp[vu]at h
 | [c],r,h=>by
  simp only[vu]at h;split at h
  .injection h with h;subst h;simp
  .cases h
 | c::d::t,r,h=>by
  simp only[vu]at h
  split at h
  .split at h
   .cases hq:vu t with
    | none=>rw[hq]at h;cases h
    | some q=>rw[hq]at h;injection h with h;subst h;have:=qfr t q hq;simp;omega
   .injection h with h;subst h;simp
  .cases hq:vu (d::t) with
   | none=>rw[hq]at h;cases h
   | some q=>rw[hq]at h;injection h with h;subst h;have:=qfr (d::t) q hq;simp at *;omega
theorem qr9(l:uk):A (vk l).str<=A l:=by
 unfold vk
 split
 simp[qk];rename_i c t
 split
 .grind[jk,qk]
 split
 .grind[yj,qk]
 split
 .unfold vY;split
  .rename_i r hr
   have:=qfr _ _ hr;rw[dp]at this;show A r.1<=_;omega
  simp[qk]
 simp[qk]
theorem qcv(s:uj)(st:St):A (qh s st).tk.str<=s.size:=by
 show (A (qQ (T s.data) st.H).str)<=s.size
 grind[qQ,qr9,qy,qk]
inductive ERes where
 | ok (str:List UInt8) (st:St)
 | err (pl:Int)
def qa2(s:ByteArray)(ft:Tk)(fp:Nat)(st:St):ERes:=
 if st.tk.Q=4 then(if A st.tk.str=1 then(if(xo st.tk.str ft.str).isSome=ui then .ok st.tk.str (qh s st) else .err fp) else .err st.U) else .err st.U
def EscEnds(rb:Nat)(s:ByteArray)(w:Ao)(r:ERes)(e:Ending)(w':Ao):Prop:=
 Kept rb w w'/\match r with
 | .ok str st=>e=Ak (Y (BS str))/\RdAt w' rb s st
 | .err pl=>e=vg 2 pl
theorem EscEnds.split{r:ERes}(h:EscEnds rb s w r e w')(H:Ready rb s w st)(b:∀str st',r=.ok str st'->st'=qh s st):Kept rb w w'/\((∃str,r=.ok str (qh s st)/\e=Ak (Y (BS str))/\Ready rb s w' (qh s st))\/∃pl,r=.err pl/\e=vg 2 pl):=by
 cases r<;>grind[Ready.P,World.kept,Fine.next,EscEnds,Ready,Kept]
theorem qwh(rb:Nat)(s:uj)(b:Tk)(d:Nat)(P:A b.str<=200)(w:Ao)(st:St)(h:Ready rb s w st):
  uo 287 #[Ag (G (D rb 0 O)),tkV b d] w (EscEnds rb s w (qa2 s b d st)):=by
 have W:=qd (h.N (Al #[I J b.Q,I J d,I J b.M,Y (BS b.str)] 154));have A1:=h.lt;have n0:¬Z w.1=rb:=uq;have H:Hid (((((BS st.tk.str).size:Int) != 1)=uh->A st.tk.str=1)/\((((BS st.tk.str).size:Int) != 1)=ui->¬A st.tk.str=1)):=qd (by rw[qI];constructor<;>intro h<;>simp at h<;>omega);have VAL:=qd (λw=>vgc (BS b.str) (BS st.tk.str) (by rwa[qI]) w);rw[zW,zW]at VAL;obtain⟨R,B⟩:=ie (qa2 s b d st);rw[B];have U:=qd B;clear h B;simp only[tkV];obtain⟨V,y⟩:=ie ((xo st.tk.str b.str).isSome);rw[y]at VAL;have T:=qd y;clear y;cases uX:(((BS st.tk.str).size:Int) != 1)<;>cases V
 all_goals
  go_enter func287,ntmps287
  go_wp2_with(first|(go_at_call 81;refine(kv W 4).mono ?_;rintro e u⟨i,⟨C,rfl,M⟩|⟨C,rfl⟩⟩;all_goals(have B9:Z w.1<Z u.1:=(by have:=i.size;simp at this;omega);have n1:¬Z u.1=rb:=uq;have p1:u.cell? ⟨Z w.1,1,O⟩=G (I J d):=((jY i).1 _ 1 ur n0).trans ur;have p3:u.cell? ⟨Z w.1,3,O⟩=G (Y (BS b.str)):=((jY i).1 _ 3 ur n0).trans ur;have K:=qd C;clear C);all_goals first|(have f:=qd ((((Kept.refl rb w).alloc (Al #[I J b.Q,I J d,I J b.M,Y (BS b.str)] 154)).trans i).alloc (Al (tkC st) 154));have F:=qd (M.N (Al (tkC st) 154));clear M i;simp only[tkV])|(have f:=qd (((Kept.refl rb w).alloc (Al #[I J b.Q,I J d,I J b.M,Y (BS b.str)] 154)).trans i);simp only[vg]))|(go_at_call 312;refine be (VAL _) λw2 q=>?_;obtain⟨x,Q⟩:=qi q;have z2:=q.size;have q1:w2.cell? ⟨Z w.1,1,O⟩=G (I J d):=(x _ 1 ut).trans (by rwa[bj _ _ _ (by first|omega|(simp;omega))]);have q3:w2.cell? ⟨Z u.1,3,O⟩=G (Y (BS st.tk.str)):=(x _ 3 ur).trans ur;replace f:=qd (f.trans (Kept.x q));have q:=qd q;clear x Q)|(go_at_call 119;refine be (qho _ _ _) ?_;rintro w2 rfl;simp only[vg]))
  all_goals
   have E:=q9 U;unfold qa2 at E
   first
   | (rw[ak (q9 K)]at E;subst E;exact⟨rfl,q9 f,rfl⟩)
   | (
    rw[bs (q9 K)]at E
    first
    | (rw[ak ((q9 H).2 uX)]at E;subst E;exact⟨rfl,q9 f,rfl⟩)
    | (
     rw[bs ((q9 H).1 uX),q9 T]at E
     first
     | (rw[ak uu]at E;subst E;exact⟨rfl,q9 f,rfl⟩)
     | (rw[bs rfl]at E;subst E;go_ret;exact⟨q9 f,rfl,F.at'.h q F.lt⟩)))
def vB(s:ByteArray)(l:Ast)(st:St):Res:=
 if(qh s st).tk.Q=4 then
  (if(qh s (qh s st)).tk.Q=13 then
   (match qa2 s (qh s st).tk (qh s st).U (qh s (qh s (qh s st))) with
    | .ok str st'=>.ok (.un ⟨22,st.U,0,(qh s st).tk.str,str,[]⟩ l) st'
    | .err pl=>.err 2 pl)
  else .ok (.un ⟨22,st.U,0,(qh s st).tk.str,[],[]⟩ l) (qh s (qh s st)))
 else .err 2 (qh s st).U
theorem qeq{d:Tk}{f:Nat}{str:uk}{b:St}(h:qa2 s d f st=.ok str b):st.tk.Q=4/\b=qh s st:=by
 grind[qa2]
theorem qx2(rb:Nat)(s:uj)(op:Nat)(hs:s.size<=200):qkw 252 rb s op 12 (vB s):=by
 intro w st l lv h ho hl I2;have H:=qd h;have A1:=h.lt;have U8:=h.y.le (by rw[I2];decide);have oX:=qd I2;obtain⟨lb,rfl⟩:=hl.ptr;have HL:=qd hl;have lC:A (qh s st).tk.str<=200:=bu (qcv s st) hs;obtain⟨R,x⟩:=ie (vB s l st);rw[x];unfold vB at x;obtain⟨f,F⟩:=ie (qh s st);rw[F]at x lC U8;have V6:f.op=op:=F ▸ ho
 have HR:=qd x;have S1:=qd F;clear h hl I2 x F;go_enter func252,ntmps252
 go_wp2_with(first|(go_at_call_of 81 (I IntKind.i64 12);refine(qkj H oX).mono ?_;rw[q9 S1];rintro e C⟨rfl,C7,A5⟩;have B9:=A5.size;have U:¬Z C.1=rb:=uq;have Y8:=qd (C7.N (Al (tkC st) 154));have d:=qd (A5.alloc (Al (tkC st) 154));clear C7 A5;simp only[tkV])|(go_at_call_of 81 (I IntKind.i64 4);refine(kv Y8 4).mono ?_;rintro e w2⟨M,⟨D,rfl,C8⟩|⟨D,rfl⟩⟩;all_goals(obtain⟨q2,D8⟩:=qar M U;have n2:¬Z w2.1=rb:=uq;have H4:=qd D;clear D);all_goals first|(have T:∀i,(w2.alloc (Al (tkC f) 154)).cell? ⟨Z C.1,i,O⟩=(tkC st)[i]?:=(λi=>(bj _ _ _ (by first|omega|(simp;omega))).trans (q2 i));replace d:=qd ((d.trans M).alloc (Al (tkC f) 154));have aW:=qd (C8.N (Al (tkC f) 154));clear C8 M;simp only[tkV])|(replace d:=qd (d.trans M);simp only[vg]))|(go_at_call 250;refine(qt0 aW 13).mono ?_;rintro e w3⟨b,Q,rfl,K,F3,q⟩;obtain⟨r,S4⟩:=qar K n2;have q3:∀i,w3.cell? ⟨Z C.1,i,O⟩=(tkC st)[i]?:=(λi=>((jY K).1 _ i ut U).trans (T i));replace d:=qd (d.trans K);have u:=qd F3;have H13:=qd q;clear F3 K q)|(go_at_call 287;refine(qwh rb s f.tk f.U lC _ Q u).mono ?_;rintro e P hg;obtain⟨G,⟨str,hq,rfl,R7⟩|⟨pl,hq,rfl⟩⟩:=hg.split u (λ_ _ h=>(qeq h).2);all_goals(have MG:Z w2.1<Z P.1:=(md G.size);obtain⟨W,kf⟩:=jY G;have u3:Xc P (Z w2.1) 3 (Y (BS f.tk.str)):=(W _ 3 S4 n2).trans (r 3);have u1:Xc P (Z C.1) 1 (I J st.U):=(W _ 1 uq U).trans (q3 1);replace d:=qd (d.trans G);have HQ:=qd hq;clear G W kf hq hg);all_goals first|(have B:=qd R7;clear R7)|simp only[vg]))
 all_goals
  have E:=q9 HR
  first
  | (rw[ak (q9 H4)]at E;subst E;exact⟨rfl,q9 d,rfl⟩)
  | (
   rw[bs (q9 H4)]at E;have D:=(q9 Y8).y.le (by rw[q9 H4];decide);have h3:=(q9 aW).y;obtain⟨rfl,q,y⟩|⟨rfl,q,y⟩:=q9 H13
   .rw[bs q,<-y]at E
    have:=h3.le (by rw[q];decide)
    first
    | (
     have _q:=HQ;rw[q9 HQ]at E;subst E
     first
     | exact⟨rfl,q9 d,rfl⟩
     | (
      go_ret;have h5:=(q9 u).y.le (by rw[(qeq (q9 HQ)).1];decide)
      exact⟨(d.alloc _).alloc _,_,rfl,IsNode.texted (HL.P d) B.lt (Am ⟨rfl,rfl⟩) 22 st.U _ _,(B.at'.N _ B.lt).N _ (by have:=(q9 B).lt;simp;omega),B.y,by rwa[y],by rw[y]at h5 |-;omega⟩))
    | contradiction
   .rw[ak q]at E
    subst E
    first
    | contradiction
    | (
     go_ret;have A8:=IsNode.texted (ts:=[]) (HL.P d) u.lt (Am ⟨rfl,rfl⟩) 22 st.U f.tk.str []
     exact⟨(d.alloc _).alloc _,_,rfl,by simpa [BS]using A8,by rw[<-y];exact(u.at'.N _ u.lt).N _ (by have:=(q9 u).lt;simp;omega),h3,V6,uq⟩))
def opA:Ast->Int
 | .leaf p=>p.op
 | .un p _=>p.op
 | .bin p _ _=>p.op
 | .tri p _ _ _=>p.op
theorem IsNode.opAt(h:IsNode rb w v t):∃b,v=Ag (G (D b 0 O))/\Xc w b 0 (I J (opA t)):=by
 cases t with
 | leaf p=>obtain⟨b,hv,h⟩:=h;exact⟨b,hv,h.c0⟩
 | un p x=>obtain⟨b,g,d,hv,h,_⟩:=h;exact⟨b,hv,h.c0⟩
 | bin p x y=>obtain⟨b,g,d,f,hv,h,_⟩:=h;exact⟨b,hv,h.c0⟩
 | tri p x y z=>obtain⟨b,g,d,f,i,hv,h,_⟩:=h;exact⟨b,hv,h.c0⟩
def qc5(st:St)(l:Ast):Bool:=st.tk.Q==2&&opA l==0
def zG(s:ByteArray)(f:St->Res)(gI gL:Ast->St->Res)(bare:Bool)(l:Ast)(st:St):Res:=
 if st.tk.Q=16\/st.tk.Q=17\/st.tk.Q=18\/st.tk.Q=19\/st.tk.Q=20\/st.tk.Q=21 then jX s f st l
 else if st.tk.Q=14 then(if bare=ui then jy s l st else .ok l st)
 else if st.tk.Q=7 then(match vD s f gI gL bare l (qh s st) with
  | .ok t st'=>.ok (.un ⟨5,st.U,0,[],[],[]⟩ t) st'
  | .err en pl=>.err en pl)
 else if st.tk.Q=10\/st.tk.Q=11\/st.tk.Q=12 then vD s f gI gL bare l st
 else .ok l st
def zH(s:ByteArray)(f:St->Res)(gI gL:Ast->St->Res)(st:St):Res:=match f st with
 | .ok l st'=>zG s f gI gL (qc5 st l) l st'
 | .err en pl=>.err en pl
theorem Gives.from'{d:Ao}{op f b:Nat}(h:Gives rb s d op f r e w')(i:Kept rb w d)(q:b<=f):Gives rb s w op b r e w':=by
 refine⟨i.trans h.1, ?_⟩
 grind[Gives]
theorem vrc{x:Int}(b:x=k):(x==16)=(k==16)/\(x==17)=(k==17)/\(x==18)=(k==18)/\(x==19)=(k==19)/\(x==20)=(k==20)/\(x==21)=(k==21)/\(x==14)=(k==14)/\(x==7)=(k==7)/\(x==10)=(k==10)/\(x==11)=(k==11)/\(x==12)=(k==12):=by simp_all
theorem vtd(s:uj)(f:St->Res)(h d:Ast->St->Res)(l:Ast)(st:St):
  ((st.tk.Q=16\/st.tk.Q=17\/st.tk.Q=18\/st.tk.Q=19\/st.tk.Q=20\/st.tk.Q=21)/\∀b,zG s f h d b l st=jX s f st l) \/
  (st.tk.Q=14/\∀b,zG s f h d b l st=if b=ui then jy s l st else .ok l st) \/
  (st.tk.Q=7/\∀b,zG s f h d b l st=(match vD s f h d b l (qh s st) with|.ok t st'=>.ok (.un ⟨5,st.U,0,[],[],[]⟩ t) st'|.err en pl=>.err en pl)) \/
  ((st.tk.Q=10\/st.tk.Q=11\/st.tk.Q=12)/\∀b,zG s f h d b l st=vD s f h d b l st) \/
  (((st.tk.Q==16)=uh/\(st.tk.Q==17)=uh/\(st.tk.Q==18)=uh/\(st.tk.Q==19)=uh/\(st.tk.Q==20)=uh/\(st.tk.Q==21)=uh/\(st.tk.Q==14)=uh/\(st.tk.Q==7)=uh/\(st.tk.Q==10)=uh/\(st.tk.Q==11)=uh/\(st.tk.Q==12)=uh)/\∀b,zG s f h d b l st=.ok l st):=by
 unfold zG
 grind[St]
structure TT(rb:Nat)(s:ByteArray)(op:Nat)(f:St->Res)(gI gL:Ast->St->Res)(w:Ao)(st:St)(l:Ast)(A9:St):Prop where
 af:xm 226 rb s op f
 ai:qkw 251 rb s op 11 gI
 al:qkw 252 rb s op 12 gL
 ah:Ready rb s w st
 ao:st.op=op
 ar:f st=.ok l A9
theorem vfs{op:Nat}{f:St->Res}{A y:Ast->St->Res}{u:St}(ua:TT rb s op f A y w st l u):
  uo 207 #[Ag (G (D rb 0 O))] w (Gives rb s w op st.U (zG s f A y (qc5 st l) l u)):=by
 obtain⟨hf,hI,hL,h,ho,D4⟩:=ua;have H:=qd h;have J:=qd hf;have HI:=qd hI;have RY:=qd hL;have O5:=qd D4;obtain⟨c0,c1,c2,c3,c4,c5,c6,fz⟩:=h.at';obtain⟨Q,G9⟩:=ie ((st.tk.Q==2));obtain⟨P,A0⟩:=ie ((opA l==0));obtain⟨r,Y⟩:=ie (vD s f A y (Q&&P) l (qh s u));rw[show qc5 st l=(Q&&P) by unfold qc5;rw[G9,A0]];cases Q<;>cases P<;>simp only[Bool.and_self,nl,lu]at Y |-
 all_goals
  obtain⟨i|i|i|i|i|i,B⟩|⟨i,B⟩|⟨i,B⟩|⟨i|i|i,B⟩|⟨i,B⟩:=vtd s f A y l u
 all_goals
  rw[B]
  first|(rw[Y];have HKR:=qd Y;cases r)|(simp only[dk,if_true,if_false])|skip
 all_goals
  have DO:=qd i
  first
   | (
    have E:=vrc i;simp only[Int.reduceBEq]at E
    obtain⟨QA,PW,VQ,VP,VO,W,QD,e7,IE,LE,VR⟩:=E)
   | obtain⟨QA,PW,VQ,VP,VO,W,QD,e7,IE,LE,VR⟩:=i
  try clear i
  go_enter func207,ntmps207
  go_wp2_with(first|(go_at_call 226;refine(J _ st H ho).mono ?_;rintro e w1⟨A5,h1⟩;rw[q9 O5]at h1;obtain⟨v1,rfl,x,C7,M,F,I⟩:=h1;obtain⟨b,rfl,cb⟩:=x.opAt;obtain⟨d0,d1,d2,d3,d4,d5,d6,dz⟩:=C7;have q:=qd (H.P A5 ⟨d0,d1,d2,d3,d4,d5,d6,dz⟩ M);have x:=qd x;have C:=qd A5)|(go_at_call 167;refine(qhg uu rb s op f J u l _ _ q F x).mono ?_;rintro e w' d;have d:=d.from' C (bu I (Nat.le_of_lt (M.long (by rw[q9 DO];decide))));obtain⟨v,rfl,d⟩|⟨en,pl,rfl,d⟩:=d.cases;rotate_left;(exact⟨rfl,d⟩);have HG:=qd d)|(go_at_call 227;refine(qwy rb s op l _ _ u q F x DO).mono ?_;rintro e w' d;have d:=d.from' C I;obtain⟨v,rfl,d⟩|⟨en,pl,rfl,d⟩:=d.cases;rotate_left;(exact⟨rfl,d⟩);have HG:=qd d)|(go_at_call 79;refine be (yY rb s u _ q.size q.y.H q.at' q.lt q.err) ?_;rintro w2⟨C8,B8⟩;have K9:=qd (x.P B8);have lG:=qd (C.trans B8);have aW:=qd (q.P B8 C8 (q.y.next)))|(go_at_call 228;refine(qf5 rb s op f A y J HI RY _ _ (qh s u) l _ aW F K9).mono ?_;rintro e w3⟨F2,U⟩;rw[q9 HKR]at U;(first|(subst U;simp only[vg])|(obtain⟨v3,rfl,T,F3,mT,CE,mO⟩:=U;have T:=qd T;have F3:=qd F3;have fU:=qd (lG.trans F2);have sD:rb<Z w3.1:=au aW.lt F2.size)))|(go_at_call 228;refine(qf5 rb s op f A y J HI RY _ _ u l _ q F x).mono ?_;rintro e w' d;have d:=d.from' C I;obtain⟨v,rfl,d⟩|⟨en,pl,rfl,d⟩:=d.cases;rotate_left;(exact⟨rfl,d⟩);have HG:=qd d)|(refine(qcb rb _ _ _ _ T sD).mono ?_;rintro e w4⟨⟨v4,rfl,R⟩,K⟩;have R:=qd R;have K:=qd K))
  first
   | exact⟨rfl,lG.trans F2,rfl⟩
   | (
    go_ret
    first
     | exact q9 HG
     | (
      have lC:=M.le (by rw[q9 DO];decide)
      exact⟨fU.trans (Kept.x K),_,rfl,q9 R,F3.h K sD,mT,CE,uq⟩)
     | exact⟨q9 C,_,rfl,q9 x,q.at',M,F,I⟩)
def qz8(s:ByteArray)(p:Nat)(k a z:Int)(S:ByteArray)(n:Int):Prop:=rTk (qQ (T s.data) p) (qS (T s.data) p) (vq (T s.data) p)=Ai #[I J k,I J a,I J z,Y S,I J n]
section
variable {w:Ao} {rb:Nat} {nv:Ap} {s:uj} {k a z:Int} {p:Nat} {S:uj} {n op er at':Int}
theorem quz(h:TrC w rb nv s k a p S n op 0 at')(y:s.size<=200)(hp:p<=s.size){f i b:Int}{q:uj}{d:Int}(C:qz8 s p f i b q d)(kind:Int)(X:uj)(A:k=kind)(B:(S.toList==X.toList)=ui):
  uo 262 #[Ag (G (D rb 0 O)),I J kind,Y X] w λe w'=>e=Ak (Aj #[])/\TrC w' rb nv s f i b q d op 0 at'/\Kept rb w w':=by
 have u:=pk h kind X;rw[B,A,mu,nl]at u;have H:=qd u;have E:=qd (yU h y hp C);go_enter func262,ntmps262
 go_wp2_with(first|(go_at_call 129;refine be H ?_;rintro K rfl)|(refine be E λw2 x=>?_;have F:=qd x))
 refine bo (by simp[go_sem]) rfl ⟨rfl,q9 F⟩
theorem qk6(h:TrC w rb nv s k a z S n op 0 at')(kind:Int)(X:uj)(f:(k==kind&&(S.toList==X.toList))=uh):
  uo 262 #[Ag (G (D rb 0 O)),I J kind,Y X] w λe w'=>e=Ak (Aj #[])/\TrC w' rb nv s 1 a 0 ⟨#[]⟩ 0 op 2 a/\Kept rb w w':=by
 have b:=pk h kind X;rw[f]at b;have u:=qd b;have q:=qd (gw h 2 a);obtain⟨lt,c0,E,C,B,c4,A,y,c7,c8,c9,fz⟩:=h;go_enter func262,ntmps262
 go_wp2_with(first|(go_at_call 129;refine be u ?_;rintro x rfl)|(refine be q λw2 d=>?_;have i:=qd d))
 go_end0
 exact⟨rfl,q9 i⟩
theorem qnx(h:TrC w rb nv s 1 a z S n op er at')(i:er≠0)(kind:Int)(X:uj)(f:kind≠1):
  uo 262 #[Ag (G (D rb 0 O)),I J kind,Y X] w λe w'=>e=Ak (Aj #[])/\TrC w' rb nv s 1 a 0 ⟨#[]⟩ 0 op er at'/\Kept rb w w':=by
 have b:=pk h kind X;rw[show((1:Int)==kind)=uh from aw.2 (λe=>f e.symm),rh]at b;have x:=qd b;have u:=qd (qfz h i 2 a);obtain⟨lt,c0,F,E,C,c4,B,A,c7,c8,c9,fz⟩:=h;go_enter func262,ntmps262
 go_wp2_with(first|(go_at_call 129;refine be x ?_;rintro y rfl)|(refine be u λw2 d=>?_;have q:=qd d))
 go_end0
 exact⟨rfl,q9 q⟩
end
structure RN where
 op:List UInt8
 at':Int
 ins:List Nat
 str:List UInt8
 esc:List UInt8
 i:List (List UInt8)
 M:Int
 neg:Bool
 u:Int
def pt(n:RN)(iv lv:Ap):List Ap:=[Y (BS n.op),I J n.at',iv,Y (BS n.str),Y (BS n.esc),lv,I J n.M,Ah n.neg,I J n.u]
def qau(l:List Nat):List Ap:=l.map λ(i:Nat)=>I J (Int.ofNat i)
def qat(w:Ao)(rb k:Nat):Prop:=k=rb\/∃nv,w.cell? (D rb 0 O)=G nv/\ug nv=G k
structure TKept(rb:Nat)(w w':Ao):Prop where
 os:w'.os=w.os
 tape:w'.tape=w.tape
 output:w'.output=w.output
 size:w.1.size<=w'.1.size
 block:∀k,k<w.1.size->¬qat w rb k->w'.1[k]?=w.1[k]?
 own:∀k,k<w.1.size->qat w' rb k->qat w rb k
theorem TKept.refl(rb:Nat)(w:Ao):TKept rb w w:=by constructor<;>grind
theorem TKept.trans{b c:Ao}(h:TKept rb a b)(k:TKept rb b c):TKept rb a c:=by grind[TKept]
theorem TKept.of_kept(h:Kept rb w w')(i:w'.cell? (D rb 0 O)=w.cell? (D rb 0 O)):TKept rb w w':=by
 refine⟨h.os,h.tape,h.output,h.size,λk d f=>h.block k d (λe=>f (Am e)),λk d b=>?_⟩;obtain b|⟨nv,u,q⟩:=b;exact Am b;exact An ⟨nv,i ▸ u,q⟩
theorem TKept.x(h:Xb w w')(b:rb<Z w.1):TKept rb w w':=TKept.of_kept (Kept.x h) ((qi h).1 _ _ b)
theorem TKept.alloc(h:TKept rb a w)(b:rb<Z a.1)(o:Obj):TKept rb a (w.alloc o):=h.trans (TKept.x (uy.alloc ux o) (au b h.size))
theorem TKept.far(h:TKept rb a w)(y:rb<Z a.1){p:Addr}(hp:Z a.1<=p.block)(u:Ap):TKept rb a (B w p u):=by
 have f:(B w p u).cell? (D rb 0 O)=w.cell? (D rb 0 O):=bg (w:=w) (w':=B w p u) (a:=D rb 0 O) (bi w p u rb uq);refine⟨h.os,h.tape,h.output,by have:=h.size;simp;omega,λk d x=>?_,λk d b=>?_⟩
 grind[Below.heap_setCell,TKept]
 refine h.own k d ?_;obtain b|⟨nv,q,i⟩:=b;exact Am b;exact An ⟨nv,f ▸ q,i⟩
def RowOf(w:Ao)(rb:Nat)(ty:TypeId)(v:Ap)(vs:List Ap):Prop:=
 (vs=[]/\v=C O 0 0)\/∃g cap c fr,v=C (G (D g 0 O)) (A vs) cap/\rb<g/\w.1[g]?=G (Al c ty fr)/\¬qat w rb g/\∀(j:Nat) (u:Ap),vs[j]?=G u->c[j]?=G u
theorem RowOf.P(h:RowOf w rb ty v vs)(b:TKept rb w w'):RowOf w' rb ty v vs:=by
 grind[RowOf,TKept]
theorem RowOf.far(h:RowOf w rb ty v vs)(F:w.1[L]?=G (Al c' ty' fr'))(f:ty≠ty')(A:L≠rb)(j:Nat)(u:Ap):RowOf (B w (D L j O) u) rb ty v vs:=by
 obtain h|⟨g,cap,c,fr,hv,i,q,d,b⟩:=h;exact Am h;have E:g≠L:=λe=>by grind
 have C:(B w (D L j O) u).cell? (D rb 0 O)=w.cell? (D rb 0 O):=bg (w:=w) (a:=D rb 0 O) (bi w ⟨L,j,O⟩ u rb (λe=>A e.symm));refine An ⟨g,cap,c,fr,hv,i,(bi w ⟨L,j,O⟩ u g E).trans q,λh=>d ?_,b⟩;obtain h|⟨nv,y,x⟩:=h;exact Am h;exact An ⟨nv,C ▸ y,x⟩
theorem vo{e:Nat}(h:ue w base e size v n xs)(d:∀g,ug v=G g->w'.1[g]?=w.1[g]?):ue w' base e size v n xs:=by
 refine⟨h.1, ?_⟩;obtain b|⟨g,cap,cur,rfl,f,i,rest⟩:=h.2;exact Am b;exact An ⟨g,cap,cur,rfl,f,(d g rfl).trans i,rest⟩
def NodesAt(w:Ao)(rb:Nat)(nv:Ap)(ns:List RN):Prop:=
 ∃rs:List (Ap×Ap),A rs=A ns/\ue w (rb+1) 178 9 nv (A ns) ((ns.zip rs).flatMap λx=>pt x.1 x.2.1 x.2.2) /\
  ∀(j:Nat) (n:RN) (r:Ap×Ap),ns[j]?=G n->rs[j]?=G r->RowOf w rb 3 r.1 (qau n.ins)/\RowOf w rb 9 r.2 (qx n.i)
theorem NodesAt.same{ns:List RN}(h:NodesAt w rb nv ns)(d:TKept rb w w')(b:∀k,ug nv=G k->w'.1[k]?=w.1[k]?):NodesAt w' rb nv ns:=by
 grind[vo,RowOf.P,NodesAt]
theorem NodesAt.P{ns:List RN}(h:NodesAt w rb nv ns)(f:w.cell? (D rb 0 O)=w'.cell? (D rb 0 O))(d:Kept rb w w'):NodesAt w' rb nv ns:=by
 have i:=TKept.of_kept d f.symm;refine h.same i λk q=>?_
 obtain⟨u,y,b,x⟩:=h;have:=b.lt k q
 grind[Kept]
theorem NodesAt.h{ns:List RN}(h:NodesAt w rb nv ns)(i:rb<Z w.1)(b:Xb w w'):NodesAt w' rb nv ns:=by
 refine h.same (TKept.x b i) λk f=>?_
 obtain⟨q,x,d,u⟩:=h;exact b.block k (d.lt k f).2
theorem NodesAt.far{ns:List RN}(h:NodesAt w rb nv ns)(b:w.1[L]?=G (Al c' ty' fr'))(f:(3:TypeId)≠ty')(d:(9:TypeId)≠ty')(i:L≠rb)(q:ug nv≠G L)(j:Nat)(u:Ap):
  NodesAt (B w (D L j O) u) rb nv ns:=by
 grind[vo,Below.heap_setCell,RowOf.far,NodesAt]
theorem NodesAt.nil(w:Ao)(rb:Nat):NodesAt w rb (C O 0 0) []:=⟨[],rfl,dw _ _ _ _,λj n r h=>by simp at h⟩
theorem vqz:(prog.info? 178).map (λi=>(i.zero,i.size,i.bytes))=G (G (Ai #[Y ⟨#[]⟩,I J 0,C O 0 0,Y ⟨#[]⟩,Y ⟨#[]⟩,C O 0 0,I J 0,Ah uh,I J 0]),9,128):=uw
def appR(ats:Array TypeId)(ty:TypeId)(args:Array Ap):Sem Ap:=Builtin.append_ ats ty args
theorem vr(ats:Array TypeId)(ty:TypeId)(args:Array Ap):Builtin.append_ ats ty args=appR ats ty args:=rfl
theorem RowOf.form(h:RowOf w rb ty v vs):∃a c,v=C a (A vs) c:=by
 grind[RowOf]
theorem NodesAt.app{W:Ao}{ns:List RN}(h:NodesAt W rb nv ns)(c0:Xc W rb 0 nv)(A1:rb<Z W.1)(n:RN)(K:RowOf W rb 3 iv (qau n.ins))(M:RowOf W rb 9 lv (qx n.i))(H:A ns<=100000):
  ∃g cap b,(appR #[169,169] 169 #[nv,C (G ⟨Z W.1,0,O⟩) 1 1]).run prog (W.alloc (Al #[Y (BS n.op),I J n.at',iv,Y (BS n.str),Y (BS n.esc),lv,I J n.M,Ah n.neg,I J n.u] 178))=.ok (C (G (D g 0 O)) (A ns+1) cap) b /\
   Hid (b.1[rb]?=W.1[rb]?)/\rb<Z b.1 /\
   Hid (NodesAt (B b (D rb 0 O) (C (G (D g 0 O)) (A ns+1) cap)) rb (C (G (D g 0 O)) (A ns+1) cap) (ns++[n])) /\
   Hid (TKept rb W (B b (D rb 0 O) (C (G (D g 0 O)) (A ns+1) cap))):=by
 obtain⟨i0,hi,F5,B9,D8⟩:=info_parts vqz;obtain⟨U,u,F,hr⟩:=h;obtain⟨ai,ci,fQ⟩:=K.form;obtain⟨al,cl,lC⟩:=M.form;obtain⟨g,cap,b,L4,B7,f,i,_⟩:=run_append_lies (P:=prog) (W.alloc (Al #[Y (BS n.op),I J n.at',iv,Y (BS n.str),Y (BS n.esc),lv,I J n.M,Ah n.neg,I J n.u] 178)) 169 169 (rb+1) 178 i0 _ 9 128 underlying169 hi F5 B9 D8 rfl uq nv (A ns) _ (World.ownsRow.alloc F _)
  ⟨Z W.1,0,O⟩ 1 1 (pt n iv lv) rfl (World.news_of_block (cs:=#[Y (BS n.op),I J n.at',iv,Y (BS n.str),Y (BS n.esc),lv,I J n.M,Ah n.neg,I J n.u]) (t:=178) (fr:=(0,0)) (heap_alloc_new W _)) (by subst fQ lC;simp[pt,Value.oneCell']) uq (by unfold maxLen;omega) uq ut _ rfl
 have rL:=f.size;simp only[mh]at rL;have E6:∀k,ug nv=G k->rb+1<=k/\k<Z W.1:=λk d=>F.lt k d
 have Q:b.1[rb]?=W.1[rb]?:=(f.block rb ut (λe=>by grind)).trans (ik W _ rb A1);have S9:∀k,k≠rb->(B b (D rb 0 O) (C (G (D g 0 O)) (A ns+1) cap)).1[k]?=b.1[k]?:=λk d=>bi b ⟨rb,0,O⟩ _ k d
 have hb:∀k,k<Z W.1->ug nv≠G k->b.1[k]?=W.1[k]?:=λk d H=>(f.block k ut (λe=>H e.symm)).trans (ik W _ k d)
 have c5:Xc (B b (D rb 0 O) (C (G (D g 0 O)) (A ns+1) cap)) rb 0 (C (G (D g 0 O)) (A ns+1) cap):=by
  have:Xc b rb 0 nv:=(bg (w:=W) (w':=b) (a:=D rb 0 O) Q).trans c0;simp[go_sem,this]
 have J0:∀k,k<Z W.1->qat (B b (D rb 0 O) (C (G (D g 0 O)) (A ns+1) cap)) rb k->qat W rb k:=by
  intro k d B8;obtain e|⟨nv',q,e2⟩:=B8;exact Am e;rw[c5]at q;injection q with q;subst q;have OG:g=k:=by simpa [Value.ownBlock]using e2
  subst OG;obtain i|i:=i;exact An ⟨nv,c0,i⟩;simp at i;omega
 have y:TKept rb W (B b (D rb 0 O) (C (G (D g 0 O)) (A ns+1) cap)):=by
  refine⟨f.os,f.tape,f.output,ut,λk d T=>?_,J0⟩;rw[S9 k (λe=>T (Am e))];exact hb k d (λe=>T (An ⟨nv,c0,e⟩))
 refine⟨g,cap,b,L4,qd Q,uq,qd ⟨U++[(iv,lv)],by simp[u], ?_,λj x r E R=>?_⟩,qd y⟩;rw[List.zip_append u.symm,List.flatMap_append,cd];exact ownsRow_setCell_below (by simpa using B7) (by grind) _
 by_cases hj:j<A ns
 grind[RowOf.P]
 have UI:j=A ns:=by
  have:=(aj.1 E).1;simp at this;omega
 subst UI;obtain rfl:n=x:=by simpa using E
 rw[<-u]at R;obtain rfl:(iv,lv)=r:=by simpa using R
 exact⟨K.P y,M.P y⟩
section
attribute [local go_sem ↓] vr
theorem TrC.put{a:Int}{n op er at':Int}(h:TrC w rb nv s k a z S n op er at')(b:w'.1[rb]?=w.1[rb]?)(d:rb<Z w'.1)(v:Ap):TrC (B w' (D rb 0 O) v) rb v s k a z S n op er at':=by
 obtain⟨lt,c0,A,y,x,c4,u,q,c7,c8,c9,fz⟩:=h;have i:∀j,w'.cell? (D rb j O)=w.cell? (D rb j O):=λj=>bg (w:=w) (w':=w') (a:=D rb j O) b
 have f:∀j,w'.frozen? (D rb j O)=w.frozen? (D rb j O):=λj=>cn (w:=w) (w':=w') (a:=D rb j O) b
 refine⟨by simpa using d, ?_, ?_, ?_, ?_, ?_, ?_, ?_, ?_, ?_, ?_,λj=>?_⟩<;>simp_all [go_sem]
def vpk(rb:Nat)(s:ByteArray)(k a z:Int)(S:ByteArray)(n op er at':Int)(w:Ao)(ns:List RN)(x:RN)(e:Ending)(w':Ao):Prop:=
 e=Ak (I J (A ns))/\TKept rb w w'/\∃nv',TrC w' rb nv' s k a z S n op er at'/\NodesAt w' rb nv' (ns++[x])
theorem qb9{a:Int}{n op er at':Int}(h:TrC w rb nv s k a z S n op er at'){ns:List RN}(H:NodesAt w rb nv ns)(x:RN)(K:RowOf w rb 3 iv (qau x.ins))(M:RowOf w rb 9 lv (qx x.i))(T:A ns<=100000):
  uo 130 #[Ag (G (D rb 0 O)),Ai #[Y (BS x.op),I J x.at',iv,Y (BS x.str),Y (BS x.esc),lv,I J x.M,Ah x.neg,I J x.u]] w (vpk rb s k a z S n op er at' w ns x):=by
 have q:Xb w (w.alloc (Al #[Y (BS x.op),I J x.at',iv,Y (BS x.str),Y (BS x.esc),lv,I J x.M,Ah x.neg,I J x.u] 178)):=uy.alloc ux _;have E:=TKept.x q.drew h.lt;have d:=h.h q.drew;obtain⟨g,cap,b,M8,F,Q,HN,HK⟩:=(H.h h.lt q.drew).app d.c0 d.lt x (K.P E) (M.P E) T;have HT:=qd (d.put F Q (C (G (D g 0 O)) (A ns+1) cap));have P:=qd E;obtain⟨⟨B,u,rfl⟩,⟨y,cl,rfl⟩⟩:=And.intro K.form M.form
 have OI:∃i c0,nv=C i (A ns) c0:=by
  obtain⟨rs,_,R,_⟩:=H;obtain⟨h0,U⟩|⟨g,cap,cur,rfl,_⟩:=R.2;exact⟨O,0,by simp_all⟩;exact⟨_,_,rfl⟩
 obtain⟨i,f,rfl⟩:=OI;obtain⟨lt,c0,c1,c2,c3,c4,c5,c6,c7,c8,c9,fz⟩:=h;have L9:Xc b rb 0 (C i (A ns) f):=(bg (w':=b) (a:=D rb 0 O) F).trans d.c0;have W:b.frozen? (D rb 0 O)=uh:=(cn (w':=b) (a:=D rb 0 O) F).trans (d.fz 0)
 have aD:(appR #[169,169] 169 #[C i (A ns) f,C (G ⟨Z w.1+1,0,O⟩) 1 1]).run prog ((w.alloc (Al #[Y (BS x.op),I J x.at',C B (A (qau x.ins)) u,Y (BS x.str),Y (BS x.esc),C y (A (qx x.i)) cl,I J x.M,Ah x.neg,I J x.u] 178)).alloc (Al #[Y (BS x.op),I J x.at',C B (A (qau x.ins)) u,Y (BS x.str),Y (BS x.esc),C y (A (qx x.i)) cl,I J x.M,Ah x.neg,I J x.u] 178)).drew=.ok (C (G (D g 0 O)) (A ns+1) cap) b:=by
  have e:(w.alloc (Al #[Y (BS x.op),I J x.at',C B (A (qau x.ins)) u,Y (BS x.str),Y (BS x.esc),C y (A (qx x.i)) cl,I J x.M,Ah x.neg,I J x.u] 178)).drew.1.size=Z w.1+1:=by show(w.alloc _).1.size=_;simp
  rwa[e]at M8
 go_enter func130,ntmps130
 go_wp2
 go_region
 all_goals go_wp2
 all_goals go_ret
 all_goals exact⟨js ur,P.trans HK,_,q9 HT,q9 HN⟩
end
def tkZ(st:St):Int:=if st.tk.Q=1 then 0 else st.H
def tkS(st:St):List UInt8:=if st.tk.Q=1 then[] else rS st.tk
def tkN(st:St):Int:=if st.tk.Q=1 then 0 else st.tk.M
def RT(w:Ao)(rb:Nat)(s:ByteArray)(ns:List RN)(j:Nat)(st:St):Prop:=
 ∃nv,TrC w rb nv s (rK st.tk.Q) st.U (tkZ st) (BS (tkS st)) (tkN st) st.op 0 0/\NodesAt w rb nv ns/\Fine s st/\A ns+j<=st.U
def RE(w:Ao)(rb:Nat)(s:ByteArray)(en pl:Int)(op:Nat)(m:Nat):Prop:=
 ∃nv a ns,TrC w rb nv s 1 a 0 ⟨#[]⟩ 0 op en pl/\en≠0/\NodesAt w rb nv ns/\A ns<=m
theorem RT.lt{ns:List RN}(h:RT w rb s ns j st):rb<Z w.1:=by obtain⟨nv,h,_⟩:=h;exact h.lt
theorem RE.lt{op m:Nat}(h:RE w rb s en pl op m):rb<Z w.1:=by obtain⟨nv,a,ns,h,_⟩:=h;exact h.lt
theorem RT.y{ns:List RN}(h:RT w rb s ns j st):Fine s st:=by grind[RT]
theorem RT.few{ns:List RN}(h:RT w rb s ns j st):A ns+j<=st.U:=by grind[RT]
theorem RT.less{ns:List RN}{j':Nat}(h:RT w rb s ns j st)(b:j'<=j):RT w rb s ns j' st:=by grind[RT]
theorem RE.more{op m b:Nat}(h:RE w rb s en pl op m)(d:m<=b):RE w rb s en pl op b:=by grind[RE]
theorem RT.h{ns:List RN}(h:RT w rb s ns j st)(b:Xb w w'):RT w' rb s ns j st:=by
 obtain⟨nv,d,q,i,f⟩:=h;exact⟨nv,d.h b,q.h d.lt b,i,f⟩
theorem RE.h{op m:Nat}(h:RE w rb s en pl op m)(b:Xb w w'):RE w' rb s en pl op m:=by
 obtain⟨nv,a,ns,d,q,i,f⟩:=h;exact⟨nv,a,ns,d.h b,q,i.h d.lt b,f⟩
theorem NodesAt.fresh{ns:List RN}(h:NodesAt w rb nv ns)(c0:Xc w rb 0 nv)(u:rb<Z w.1)(o:Obj):¬qat (w.alloc o) rb (Z w.1):=by
 obtain⟨x,A,f,y⟩:=h;rintro (e|⟨d,b,q⟩);omega;have i:(w.alloc o).cell? (D rb 0 O)=w.cell? (D rb 0 O):=(qi ((Below.refl (Z w.1) w).alloc ux o)).1 _ _ u;rw[i,c0]at b;injection b with b;subst b;have:=(f.lt _ q).2;omega
theorem RT.fresh{ns:List RN}(h:RT w rb s ns j st)(o:Obj):¬qat (w.alloc o) rb (Z w.1):=by obtain⟨nv,b,d,_⟩:=h;exact d.fresh b.c0 b.lt o
theorem RE.fresh{op m:Nat}(h:RE w rb s en pl op m)(o:Obj):¬qat (w.alloc o) rb (Z w.1):=by obtain⟨nv,a,ns,b,_,d,_⟩:=h;exact d.fresh b.c0 b.lt o
theorem vnm(h:kwT k≠[]):5<=k/\k<=28:=by
 by_cases h1:5<=k/\k<=28
 exact h1;exfalso;apply h;unfold kwT
 iterate 24 rw[ak uq]
theorem vj1:∀i:Fin 24,∀j:Fin 24,kwT (5+(i.val:Int))=kwT (5+(j.val:Int))->i=j:=by decide +kernel
theorem vrd(b:kwT c≠[])(h:kwT k=kwT c):k=c:=by
 obtain⟨i,f⟩:=vnm b;obtain⟨k1,d⟩:=vnm (h ▸ b)
 have:=vj1 ⟨(k - 5).toNat,uq⟩ ⟨(c - 5).toNat,uq⟩ (by
  rwa[show(5:Int)+(((k - 5).toNat:Nat):Int)=k by omega,show(5:Int)+(((c - 5).toNat:Nat):Int)=c by omega])
 grind
theorem isK(q:kwT c=T X.data)(x:5<=c)(y:c<=28)(kind:Int)(f:rK c=kind):(rK st.tk.Q==kind&&((BS (tkS st)).toList==X.toList))=(st.tk.Q==c):=by
 have b:kwT c≠[]:=by
  have:∀i:Fin 24,kwT (5+(i.val:Int))≠[]:=by decide +kernel
  have:=this ⟨(c - 5).toNat,uq⟩;rwa [show(5:Int)+(((c - 5).toNat:Nat):Int)=c by omega]at this
 have d:((BS (tkS st)).toList==X.toList)=(tkS st==kwT c):=by
  rw[q,qP,io]
 rw[d]
 by_cases h:st.tk.Q=c
 have u:tkS st=kwT c:=by
  unfold tkS rS;rw[ak uq,ak uq,h]
 rw[u,h,f];simp
 grind[rK,vrd,tkS,rS]
section
variable {w:Ao} {rb:Nat} {s:uj} {ns:List RN} {j:Nat} {st:St} {en pl:Int} {op m:Nat}
theorem qux(h:RT w rb s ns j st)(c:Int)(d:kwT c=T X.data)(f:5<=c)(i:c<=28)(b:rK c=kind):
  uo 129 #[Ag (G (D rb 0 O)),I J kind,Y X] w λe w'=>e=Ak (Ah (st.tk.Q==c))/\w'=w:=by
 obtain⟨nv,h,_⟩:=h;have:=pk h kind X;rwa [isK d f i kind b]at this
theorem vnz(h:RE w rb s en pl op m)(b:kind≠1):
  uo 129 #[Ag (G (D rb 0 O)),I J kind,Y X] w λe w'=>e=Ak (Ah uh)/\w'=w:=by
 grind[pk,RE]
theorem kq(s:uj)(st:St):qz8 s st.H (rK (qh s st).tk.Q) (qh s st).U (tkZ (qh s st)) (BS (tkS (qh s st))) (tkN (qh s st)):=by
 show rTk (qQ (T s.data) st.H) (qS (T s.data) st.H) (vq (T s.data) st.H)=_;unfold rTk tkZ tkS tkN;show _=Ai #[I J (rK (qQ (T s.data) st.H).Q),I J (qS (T s.data) st.H:Nat),I J (if(qQ (T s.data) st.H).Q=1 then 0 else((vq (T s.data) st.H:Nat):Int)),Y (BS (if(qQ (T s.data) st.H).Q=1 then[] else rS (qQ (T s.data) st.H))),I J (if(qQ (T s.data) st.H).Q=1 then 0 else(qQ (T s.data) st.H).M)]
 split
 rename_i h;rw[h];rfl;rfl
theorem Fine.W(h:Fine s st)(b:st.tk.Q≠0):st.U<(qh s st).U:=au (h.long b) (zN s st)
theorem jU(h:RT w rb s ns j st)(q:s.size<=200)(x:st.tk.Q≠0)(A:st.tk.Q≠1):
  uo 92 #[Ag (G (D rb 0 O))] w λe w'=>e=Ak (Aj #[])/\TKept rb w w'/\RT w' rb s ns (j+1) (qh s st):=by
 obtain⟨nv,b,u,d,y⟩:=h;have hp:=d.W x;rw[show tkZ st=(st.H:Int) by grind[tkZ]]at b;refine be (yU b q d.H (kq s st)) ?_;rintro w'⟨f,i⟩;exact⟨rfl,TKept.of_kept i (f.c0.trans b.c0.symm),nv,f,u.P (b.c0.trans f.c0.symm) i,qH s st d.H,uq⟩
theorem pS(h:RT w rb s ns j st)(x:s.size<=200)(en pl:Int)(i:en≠0):
  uo 94 #[Ag (G (D rb 0 O)),I J en,I J pl] w λe w'=>e=Ak (Aj #[])/\TKept rb w w'/\RE w' rb s en pl st.op 200:=by
 obtain⟨nv,b,q,u,y⟩:=h;have:=u.U;refine be (gw b en pl) ?_;rintro w'⟨d,f⟩;exact⟨rfl,TKept.of_kept f (d.c0.trans b.c0.symm),nv,_,ns,d,i,q.P (b.c0.trans d.c0.symm) f,uq⟩
theorem qk8(h:RT w rb s ns j st)(x:s.size<=200)(c:Int)(B:kwT c=T X.data)(E:5<=c)(F:c<=28)(y:rK c=kind)(q:st.tk.Q=c):
  uo 262 #[Ag (G (D rb 0 O)),I J kind,Y X] w λe w'=>e=Ak (Aj #[])/\TKept rb w w'/\RT w' rb s ns (j+1) (qh s st):=by
 have i:=isK (st:=st) B E F kind y;rw[q]at i;obtain⟨nv,b,C,d,H⟩:=h;have hp:=d.W uq;rw[show tkZ st=(st.H:Int) by grind[tkZ]]at b;have A:(rK c==kind)=ui/\((BS (tkS st)).toList==X.toList)=ui:=by simpa using i
 refine be (quz b x d.H (kq s st) kind X (by rwa[q]) A.2) ?_;rintro w'⟨f,u⟩;exact⟨rfl,TKept.of_kept u (f.c0.trans b.c0.symm),nv,f,C.P (b.c0.trans f.c0.symm) u,qH s st d.H,uq⟩
theorem qak(h:RT w rb s ns j st)(E:s.size<=200)(c:Int)(x:kwT c=T X.data)(B:5<=c)(C:c<=28)(q:rK c=kind)(u:¬st.tk.Q=c):
  uo 262 #[Ag (G (D rb 0 O)),I J kind,Y X] w λe w'=>e=Ak (Aj #[])/\TKept rb w w'/\RE w' rb s 2 st.U st.op 200:=by
 have f:=isK (st:=st) x B C kind q;rw[show(st.tk.Q==c)=uh from aw.2 u]at f;obtain⟨nv,b,y,A,F⟩:=h;have:=A.U;refine be (qk6 b kind X f) ?_;rintro w'⟨d,i⟩;exact⟨rfl,TKept.of_kept i (d.c0.trans b.c0.symm),nv,_,ns,d,uu,y.P (b.c0.trans d.c0.symm) i,uq⟩
theorem qk7(h:RE w rb s en pl op m)(u:kind≠1):
  uo 262 #[Ag (G (D rb 0 O)),I J kind,Y X] w λe w'=>e=Ak (Aj #[])/\TKept rb w w'/\RE w' rb s en pl op m:=by
 obtain⟨nv,a,ns,b,f,x,q⟩:=h;refine be (qnx b f kind X u) ?_;rintro w'⟨d,i⟩;exact⟨rfl,TKept.of_kept i (d.c0.trans b.c0.symm),nv,_,ns,d,f,x.P (b.c0.trans d.c0.symm) i,q⟩
def rnV(x:RN)(iv lv:Ap):Ap:=Ai #[Y (BS x.op),I J x.at',iv,Y (BS x.str),Y (BS x.esc),lv,I J x.M,Ah x.neg,I J x.u]
theorem qk0(h:RT w rb s ns (j+1) st)(y:s.size<=200)(x:RN)(q:RowOf w rb 3 iv (qau x.ins))(u:RowOf w rb 9 lv (qx x.i)):
  uo 130 #[Ag (G (D rb 0 O)),rnV x iv lv] w λe w'=>e=Ak (I J (A ns))/\TKept rb w w'/\RT w' rb s (ns++[x]) j st:=by
 obtain⟨nv,d,f,i,B⟩:=h;have:=i.U;refine be (qb9 d f x q u uq) ?_;rintro w'⟨C,b,E,F⟩
 grind[RT]
theorem qjz(h:RE w rb s en pl op m)(F:m<=1000)(x:RN)(y:RowOf w rb 3 iv (qau x.ins))(B:RowOf w rb 9 lv (qx x.i)):
  uo 130 #[Ag (G (D rb 0 O)),rnV x iv lv] w λe w'=>∃i:Nat,e=Ak (I J i)/\TKept rb w w'/\RE w' rb s en pl op (m+1):=by
 obtain⟨nv,a,ns,f,d,q,H⟩:=h;refine be (qb9 f q x y B uq) ?_;rintro w'⟨u,b,C,E⟩;exact⟨A ns,rfl,u,b,_,_,C,d,E,ut⟩
end
def qJ(o:Int):List UInt8:=
 if o=0 then[110,97,109,101] else if o=1 then[110,117,109,98,101,114] else if o=2 then[116,101,120,116] else if o=3 then[84,82,85,69] else if o=4 then[70,65,76,83,69]
 else if o=5 then[78,79,84] else if o=6 then[65,78,68] else if o=7 then[79,82] else if o=8 then[61] else if o=9 then[60,62] else if o=10 then[60] else if o=11 then[60,61] else if o=12 then[62] else if o=13 then[62,61]
 else if o=14 then[112] else if o=15 then[110] else if o=16 then[43] else if o=17 then[45] else if o=18 then[42] else if o=19 then[47] else if o=20 then[66,69,84,87,69,69,78] else if o=21 then[73,78] else if o=22 then[76,73,75,69] else[78,85,76,76]
def jR(p:Pay)(ins:List Nat)(neg:Bool):RN:=⟨qJ p.op,p.U,ins,p.str,p.esc,p.i,p.M,neg,0⟩
inductive Flat:Ast->Nat->List RN->Prop
 | leaf (p:Pay) (off:Nat):Flat (.leaf p) off [jR p [] false]
 | un (p:Pay) {x:Ast} {off:Nat} {l:List RN}:Flat x off l->Flat (.un p x) off (l++[jR p [off+l.length - 1] false])
 | bin (p:Pay) {x y:Ast} {off:Nat} {l k:List RN}:Flat x off l->Flat y (off+l.length) k->Flat (.bin p x y) off (l++k++[jR p [off+l.length - 1,off+l.length+k.length - 1] false])
 | tri (p:Pay) {x y z:Ast} {off:Nat} {l k m:List RN}:Flat x off l->Flat y (off+l.length) k->Flat z (off+l.length+k.length) m ->
   Flat (.tri p x y z) off (l++k++m++[jR p [off+l.length - 1,off+l.length+k.length - 1,off+l.length+k.length+m.length - 1] false])
 | neg1 (pl:Int) (q:Pay) {x:Ast} {off:Nat} {l:List RN}:(q.op=21\/q.op=22\/q.op=23)->Flat x off l->Flat (.un ⟨5,pl,0,[],[],[]⟩ (.un q x)) off (l++[jR q [off+l.length - 1] true])
 | neg3 (pl:Int) (q:Pay) {x y z:Ast} {off:Nat} {l k m:List RN}:q.op=20->Flat x off l->Flat y (off+l.length) k->Flat z (off+l.length+k.length) m ->
   Flat (.un ⟨5,pl,0,[],[],[]⟩ (.tri q x y z)) off (l++k++m++[jR q [off+l.length - 1,off+l.length+k.length - 1,off+l.length+k.length+m.length - 1] true])
theorem Flat.pos{off:Nat}{l:List RN}(h:Flat t off l):0<A l:=by cases h<;>simp<;>omega
def REnds(rb:Nat)(s:ByteArray)(w:Ao)(op m:Nat)(ns:List RN)(j lo:Nat)(r:Res)(e:Ending)(w':Ao):Prop:=
 TKept rb w w'/\match r with
 | .ok t st=>∃new,e=Ak (I J ((A ns+A new - 1:Nat):Int))/\RT w' rb s (ns++new) j st/\st.op=op/\lo<=st.U/\Flat t (A ns) new
 | .err en pl=>∃i:Nat,e=Ak (I J i)/\RE w' rb s en pl op m
def RReads(K:Nat)(rb:Nat)(s:ByteArray)(op m:Nat)(f:St->Res):Prop:=
 ∀(w:Ao) (st:St) (ns:List RN) (j:Nat),RT w rb s ns j st->st.op=op->Calls prog K #[Ag (G (D rb 0 O))] w (REnds rb s w op m ns j st.U (f st))
def xY(K:Nat)(rb:Nat)(s:ByteArray):Prop:=
 ∀(w:Ao) (en pl:Int) (op m:Nat),RE w rb s en pl op m->Calls prog K #[Ag (G (D rb 0 O))] w λe w'=>∃i:Nat,e=Ak (I J i)/\TKept rb w w'/\RE w' rb s en pl op m
theorem REnds.more{op m d:Nat}{ns:List RN}{f b:Nat}(h:REnds rb s w op m ns j f r e w')(i:m<=d)(q:b<=f):REnds rb s w op d ns j b r e w':=by
 obtain⟨u,h⟩:=h
 grind[RE.more,REnds]
theorem TrC.setOp{a:Int}{n op er at':Int}(h:TrC w rb nv s k a z S n op er at')(o:Int):TrC (B w (D rb 7 O) (I J o)) rb nv s k a z S n o er at':=by
 cases h;constructor<;>simp_all [go_sem]
theorem RT.setOp{ns:List RN}(h:RT w rb s ns j st)(n:Nat)(o:Int)(q:o=n):RT (B w (D rb 7 O) (I J o)) rb s ns j { st with op:=n }/\TKept rb w (B w (D rb 7 O) (I J o)):=by
 subst q;obtain⟨nv,b,x,d,u⟩:=h;have i:=(Kept.refl rb w).setCell 7 (I J n);have f:=b.setOp n;exact⟨⟨nv,f,x.P (b.c0.trans f.c0.symm) i,⟨d.U,d.H,d.long⟩,u⟩,TKept.of_kept i (f.c0.trans b.c0.symm)⟩
theorem RE.setOp{op m:Nat}(h:RE w rb s en pl op m)(n:Nat)(o:Int)(i:o=n):RE (B w (D rb 7 O) (I J o)) rb s en pl n m/\TKept rb w (B w (D rb 7 O) (I J o)):=by
 subst i;obtain⟨nv,a,ns,b,u,x,q⟩:=h;have f:=(Kept.refl rb w).setCell 7 (I J n);have d:=b.setOp n;exact⟨⟨nv,a,ns,d,u,x.P (b.c0.trans d.c0.symm) f,q⟩,TKept.of_kept f (d.c0.trans b.c0.symm)⟩
theorem RT.c7{ns:List RN}(h:RT w rb s ns j st):Xc w rb 7 (I J st.op)/\Xf w rb:=by obtain⟨nv,h,_⟩:=h;exact⟨h.c7,h.fz⟩
theorem RE.c7{op m:Nat}(h:RE w rb s en pl op m):Xc w rb 7 (I J op)/\Xf w rb:=by obtain⟨nv,a,ns,h,_⟩:=h;exact⟨h.c7,h.fz⟩
theorem RT.c8{ns:List RN}(h:RT w rb s ns j st):Xc w rb 8 (I J 0):=by obtain⟨nv,h,_⟩:=h;exact h.c8
theorem RE.c8{op m:Nat}(h:RE w rb s en pl op m):Xc w rb 8 (I J en)/\(en==0)=uh:=by obtain⟨nv,a,ns,h,b,_⟩:=h;exact⟨h.c8,aw.2 b⟩
theorem RT.ct{ns:List RN}(h:RT w rb s ns j st):Xc w rb 2 (I J (rK st.tk.Q))/\Xc w rb 3 (I J st.U)/\Xc w rb 4 (I J (tkZ st))/\Xc w rb 5 (Y (BS (tkS st)))/\Xc w rb 6 (I J (tkN st)):=by obtain⟨nv,h,_⟩:=h;exact⟨h.c2,h.c3,h.c4,h.c5,h.c6⟩
section
variable {w:Ao} {rb:Nat} {s:uj} {ns:List RN} {j:Nat} {st:St} {en pl:Int} {op m:Nat}
theorem qfw(h:RT w rb s ns j st)(d:s.size<=200)(q:st.tk.Q≠0)(i:st.tk.Q≠1)(F:st.op<12):
  uo 216 #[Ag (G (D rb 0 O))] w λe w'=>e=Ak (Aj #[])/\TKept rb w w'/\RT w' rb s ns (j+1) (p9 s st):=by
 obtain⟨c7,fz⟩:=h.c7;have H:=h.lt;obtain⟨f,b⟩:=h.setOp (st.op+1) ((st.op:Int)+1) uq;have x:=qd b;have u:=qd (jU f d q i);go_enter func216,ntmps216
 go_wp2_with(refine be u ?_;rintro E⟨C,B⟩;have y:=qd C;have A:=qd B)
 go_end0
 exact⟨rfl,x.trans y,q9 A⟩
theorem qfv(h:RT w rb s ns j st)(d:s.size<=200)(x:st.op=12):
  uo 216 #[Ag (G (D rb 0 O))] w λe w'=>e=Ak (Aj #[])/\TKept rb w w'/\RE w' rb s 3 st.U 13 200:=by
 obtain⟨c7,fz⟩:=h.c7;obtain⟨_,E,_⟩:=h.ct;have F:=h.lt;rw[x]at c7;obtain⟨f,b⟩:=h.setOp 13 13 uq;have i:=qd b;have y:=qd (pS f d 3 st.U uu);go_enter func216,ntmps216
 go_wp2_with(refine be y ?_;rintro C⟨B,A⟩;have q:=qd B;have u:=qd A)
 refine bo (by simp[go_sem]) rfl ⟨rfl,i.trans q,q9 u⟩
end
theorem RE.cells{op m:Nat}(h:RE w rb s en pl op m):∃a,Xc w rb 2 (I J 1)/\Xc w rb 3 (I J a)/\Xc w rb 4 (I J 0)/\Xc w rb 5 (Y ⟨#[]⟩)/\Xc w rb 6 (I J 0):=by obtain⟨nv,a,ns,h,_⟩:=h;exact⟨a,h.c2,h.c3,h.c4,h.c5,h.c6⟩
theorem qga(rb:Nat)(s:uj):xY 293 rb s:=by
 intro w en pl op m h;obtain⟨a,y,x,c4,u,q⟩:=h.cells;obtain⟨c8,i⟩:=h.c8;have d:=h.lt;have n0:¬Z w.1=rb:=uq;have f:¬rb=Z w.1:=uq;have H:=qd h;go_enter func293,ntmps293
 go_wp2
 go_ret;have b:∀o,Xb w (w.alloc o):=λo=>uy.alloc ux o
 exact⟨0,rfl,TKept.x (b _) d,H.h (b _)⟩
theorem qnh(rb:Nat)(s:uj)(f:xY 293 rb s):xY 261 rb s:=by
 intro w en pl op m h;have x:=qd (f w en pl op m h);go_enter func261,ntmps261
 go_wp2_with(refine x.mono ?_;rintro e d⟨i,rfl,y,b⟩;obtain⟨c8,A⟩:=b.c8;have q:=qd y;have u:=qd b)
 go_loopw [3] (λv wr=>v=I J (i:Int)/\wr=d) (λ_ _=>0)
 exact⟨rfl,rfl⟩;obtain⟨rfl,rfl⟩:=hrel
 go_wp2
 go_ret;exact⟨i,rfl,q9 q,q9 u⟩
theorem vmx(rb:Nat)(s:uj)(f:xY 261 rb s):xY 236 rb s:=by
 intro w en pl op m h;have x:=qd (f w en pl op m h);go_enter func236,ntmps236
 go_wp2_with(refine x.mono ?_;rintro e d⟨i,rfl,y,b⟩;obtain⟨c8,A⟩:=b.c8;have q:=qd y;have u:=qd b)
 go_loopw [3] (λv wr=>v=I J (i:Int)/\wr=d) (λ_ _=>0)
 exact⟨rfl,rfl⟩;obtain⟨rfl,rfl⟩:=hrel
 go_wp2
 go_ret;exact⟨i,rfl,q9 q,q9 u⟩
theorem va3(rb:Nat)(s:uj)(f:xY 188 rb s):xY 128 rb s:=by
 intro w en pl op m h;have x:=qd (f w en pl op m h);go_enter func128,ntmps128
 go_wp2_with(refine x.mono ?_;rintro e d⟨i,rfl,y,b⟩;obtain⟨c8,A⟩:=b.c8;have q:=qd y;have u:=qd b)
 go_loopw [3] (λv wr=>v=I J (i:Int)/\wr=d) (λ_ _=>0)
 exact⟨rfl,rfl⟩;obtain⟨rfl,rfl⟩:=hrel
 go_wp2
 go_ret;exact⟨i,rfl,q9 q,q9 u⟩
theorem qqy(rb:Nat)(s:uj)(f:xY 128 rb s):xY 93 rb s:=by
 intro w en pl op m h;have x:=qd (f w en pl op m h);go_enter func93,ntmps93
 go_wp2_with(refine x.mono ?_;rintro e d⟨i,rfl,y,b⟩;obtain⟨c8,A⟩:=b.c8;have q:=qd y;have u:=qd b)
 go_loopw [3] (λv wr=>v=I J (i:Int)/\wr=d) (λ_ _=>0)
 exact⟨rfl,rfl⟩;obtain⟨rfl,rfl⟩:=hrel
 go_wp2
 go_ret;exact⟨i,rfl,q9 q,q9 u⟩
theorem vfr(rb:Nat)(s:uj)(d:xY 236 rb s):xY 215 rb s:=by
 intro w en pl op m h;obtain⟨a,E,D,c4,C,B⟩:=h.cells;have u:=qd (d w en pl op m h);go_enter func215,ntmps215
 go_wp2_with(refine u.mono ?_;rintro e y⟨i,rfl,x,b⟩;obtain⟨c8,A⟩:=b.c8;have f:=qd x;have q:=qd b)
 go_ret;exact⟨i,rfl,q9 f,q9 q⟩
theorem qqw(rb:Nat)(s:uj)(d:xY 215 rb s):xY 188 rb s:=by
 intro w en pl op m h;have u:=qd (vnz h (kind:=6) (X:=⟨#[78,79,84]⟩) uu);have x:=qd (d w en pl op m h);go_enter func188,ntmps188
 go_wp2_with(first|(go_at_call 129;refine be u ?_;rintro b rfl)|(refine x.mono ?_;rintro e b⟨i,rfl,A,y⟩;have f:=qd A;have q:=qd y))
 go_ret;exact⟨i,rfl,q9 f,q9 q⟩
section
variable {w:Ao} {rb:Nat} {s:uj} {ns:List RN} {j:Nat} {st:St} {en pl:Int} {op m:Nat}
theorem RowOf.no(w:Ao)(rb:Nat)(ty:TypeId):RowOf w rb ty (C O 0 0) []:=Am ⟨rfl,rfl⟩
theorem RowOf.made(f:rb<Z w.1)(d:∀o,¬qat (w.alloc o) rb (Z w.1))(ty:TypeId)(c:Array Ap)(n:Nat)(b:n=c.size):RowOf (w.alloc (Al c ty)) rb ty (C (G ⟨Z w.1,0,O⟩) n n) c.toList:=by
 grind[heap_alloc_new,RowOf]
theorem kB(b:rb<Z w.1)(h:TKept rb (w.alloc o) w'):TKept rb w w':=(TKept.x ((Below.refl (Z w.1) w).alloc ux o) b).trans h
theorem RT.alloc(h:RT w rb s ns j st)(o:Obj):RT (w.alloc o) rb s ns j st:=h.h (uy.alloc ux o)
theorem RE.alloc(h:RE w rb s en pl op m)(o:Obj):RE (w.alloc o) rb s en pl op m:=h.h (uy.alloc ux o)
theorem vdi(h:RT w rb s ns (j+1) st)(d:s.size<=200)(p:Pay)(q:BS (qJ p.op)=N)(i:BS p.str=S)(f:p.esc=[])(b:p.i=[]):
  uo 130 #[Ag (G (D rb 0 O)),Ai #[Y N,I J p.U,C O 0 0,Y S,Y ⟨#[]⟩,C O 0 0,I J p.M,Ah uh,I J 0]] w
   λe w'=>e=Ak (I J (A ns))/\TKept rb w w'/\RT w' rb s (ns++[jR p [] uh]) j st:=by
 have:=qk0 h d (jR p [] uh) (iv:=C O 0 0) (lv:=C O 0 0) (RowOf.no _ _ _) (by show RowOf _ _ _ _ (qx p.i);rw[b];exact RowOf.no _ _ _)
 grind[rnV,jR,BS]
theorem vdk(h:RT w rb s ns (j+1) st)(d:s.size<=200)(p:Pay)(i:Nat)(x:BS (qJ p.op)=N)(u:p.str=[])(q:p.esc=[])(b:p.i=[])(f:g=Z w.1):
  uo 130 #[Ag (G (D rb 0 O)),Ai #[Y N,I J p.U,C (G (D g 0 O)) 1 1,Y ⟨#[]⟩,Y ⟨#[]⟩,C O 0 0,I J p.M,Ah uh,I J 0]] (w.alloc (Al #[I J i] 3))
   λe w'=>e=Ak (I J (A ns))/\TKept rb w w'/\RT w' rb s (ns++[jR p [i] uh]) j st:=by
 have:=qk0 (h.alloc (Al #[I J i] 3)) d (jR p [i] uh) (iv:=C (G ⟨Z w.1,0,O⟩) 1 1) (lv:=C O 0 0) (RowOf.made h.lt h.fresh _ _ 1 rfl) (by show RowOf _ _ _ _ (qx p.i);rw[b];exact RowOf.no _ _ _)
 grind[rnV,jR,Calls.mono,kB,RT.lt,BS]
theorem qjx(h:RT w rb s ns (j+1) st)(d:s.size<=200)(p:Pay)(i k:Nat)(x:BS (qJ p.op)=N)(u:p.str=[])(q:p.esc=[])(b:p.i=[])(f:g=Z w.1):
  uo 130 #[Ag (G (D rb 0 O)),Ai #[Y N,I J p.U,C (G (D g 0 O)) 2 2,Y ⟨#[]⟩,Y ⟨#[]⟩,C O 0 0,I J p.M,Ah uh,I J 0]] (w.alloc (Al #[I J i,I J k] 3))
   λe w'=>e=Ak (I J (A ns))/\TKept rb w w'/\RT w' rb s (ns++[jR p [i,k] uh]) j st:=by
 have:=qk0 (h.alloc (Al #[I J i,I J k] 3)) d (jR p [i,k] uh) (iv:=C (G ⟨Z w.1,0,O⟩) 2 2) (lv:=C O 0 0) (RowOf.made h.lt h.fresh _ _ 2 rfl) (by show RowOf _ _ _ _ (qx p.i);rw[b];exact RowOf.no _ _ _)
 grind[rnV,jR,Calls.mono,kB,RT.lt,BS]
theorem qhk(h:RE w rb s en pl op m)(b:m<=1000)(N:uk)(a:Int)(i:Nat)(f:BS N=NB)(d:g=Z w.1):
  uo 130 #[Ag (G (D rb 0 O)),Ai #[Y NB,I J a,C (G (D g 0 O)) 1 1,Y ⟨#[]⟩,Y ⟨#[]⟩,C O 0 0,I J 0,Ah uh,I J 0]] (w.alloc (Al #[I J i] 3))
   λe w'=>∃i:Nat,e=Ak (I J i)/\TKept rb w w'/\RE w' rb s en pl op (m+1):=by
 subst d;subst f;refine(qjz (h.alloc (Al #[I J i] 3)) b ⟨N,a,[i],[],[],[],0,uh,0⟩ (iv:=C (G ⟨Z w.1,0,O⟩) 1 1) (lv:=C O 0 0) (RowOf.made h.lt h.fresh _ _ 1 rfl) (RowOf.no _ _ _)).mono ?_
 grind[kB,RE.lt]
theorem qft(h:RE w rb s en pl op m)(b:m<=1000)(N:uk)(a:Int)(i k:Nat)(f:BS N=NB)(d:g=Z w.1):
  uo 130 #[Ag (G (D rb 0 O)),Ai #[Y NB,I J a,C (G (D g 0 O)) 2 2,Y ⟨#[]⟩,Y ⟨#[]⟩,C O 0 0,I J 0,Ah uh,I J 0]] (w.alloc (Al #[I J i,I J k] 3))
   λe w'=>∃i:Nat,e=Ak (I J i)/\TKept rb w w'/\RE w' rb s en pl op (m+1):=by
 subst d;subst f;refine(qjz (h.alloc (Al #[I J i,I J k] 3)) b ⟨N,a,[i,k],[],[],[],0,uh,0⟩ (iv:=C (G ⟨Z w.1,0,O⟩) 2 2) (lv:=C O 0 0) (RowOf.made h.lt h.fresh _ _ 2 rfl) (RowOf.no _ _ _)).mono ?_
 grind[kB,RE.lt]
theorem TKept.mine(h:TKept rb w w')(d:L<Z w.1)(b:¬qat w rb L):(∀i,w'.cell? (D L i O)=w.cell? (D L i O))/\(∀i,w'.frozen? (D L i O)=w.frozen? (D L i O))/\w'.1[L]?=w.1[L]?/\¬qat w' rb L/\L<Z w'.1:=by grind[World.cell?_of_block,World.frozen?_of_block,TKept]
end
theorem qne(h:k=5\/k=6\/(16<=k/\k<=25)):qJ (qgs k)=kwT k:=by
 have:k=5\/k=6\/k=16\/k=17\/k=18\/k=19\/k=20\/k=21\/k=22\/k=23\/k=24\/k=25:=uq;obtain rfl|rfl|rfl|rfl|rfl|rfl|rfl|rfl|rfl|rfl|rfl|rfl:=this<;>decide
theorem vft(h:5<=st.tk.Q):tkS st=kwT st.tk.Q:=by grind[tkS,rS]
theorem xT{K o n:Int}{S:uk}(d:(K=2/\X=BS st.tk.str/\o=0/\n=0/\S=st.tk.str/\k=2)\/(K=3/\X=⟨#[]⟩/\o=1/\n=st.tk.M/\S=[]/\k=3)\/(K=4/\X=BS st.tk.str/\o=2/\n=0/\S=st.tk.str/\k=4)\/(K=6/\X=⟨#[84,82,85,69]⟩/\o=3/\n=0/\S=[]/\k=8)\/(K=6/\X=⟨#[70,65,76,83,69]⟩/\o=4/\n=0/\S=[]/\k=9))
  (rb:Nat) (s:uj) (b:s.size<=200) (op m:Nat) (w:Ao) (ns:List RN) (j:Nat) (h:RT w rb s ns j st) (q:st.op=op) (u:st.tk.Q=k) :
  uo 293 #[Ag (G (D rb 0 O))] w (REnds rb s w op m ns j st.U (.ok (gM o st n S) (qh s st))):=by
 obtain⟨F,c3,c4,E,B⟩:=h.ct;have c8:=h.c8;have A1:=h.lt;have n0:¬Z w.1=rb:=uq;have n1:¬rb=Z w.1:=uq;have J8:2<=st.tk.Q/\st.tk.Q<=9:=uq
 obtain⟨A,y⟩:rK st.tk.Q=K/\BS (tkS st)=X:=by
  obtain⟨rfl,rfl,_,_,_,rfl⟩|⟨rfl,rfl,_,_,_,rfl⟩|⟨rfl,rfl,_,_,_,rfl⟩|⟨rfl,rfl,_,_,_,rfl⟩|⟨rfl,rfl,_,_,_,rfl⟩:=d<;>unfold tkS rS<;>rw[u]<;>exact⟨rfl,rfl⟩
 rw[A]at F;rw[show tkZ st=(st.H:Int) by unfold tkZ;rw[ak uq]]at c4;rw[y]at E;rw[show tkN st=st.tk.M by unfold tkN;rw[ak uq]]at B;have H:=qd (jU (h.alloc (Al #[I J K,I J st.U,I J st.H,Y X,I J st.tk.M] 171)) b uq uq);have FR:=qd (h.fresh (Al #[I J K,I J st.U,I J st.H,Y X,I J st.tk.M] 171));have Q:=qd λ(W:Ao) (h:∀i,W.cell? ⟨Z w.1,i,O⟩=(w.alloc (Al #[I J K,I J st.U,I J st.H,Y X,I J st.tk.M] 171)).cell? ⟨Z w.1,i,O⟩)=>And.intro ((h 1).trans (show _=G (I J st.U) by simp)) (And.intro ((h 3).trans (show _=G (Y X) by simp)) ((h 4).trans (show _=G (I J st.tk.M) by simp)))
 have M:=qd λ(W:Ao) (h:RT W rb s ns (j+1) (qh s st))=>vdi h b ⟨o,st.U,n,S,[],[]⟩ rfl rfl rfl rfl
 have J5:=h.y.W uq;obtain⟨rfl,rfl,rfl,rfl,rfl,_⟩|⟨rfl,rfl,rfl,rfl,rfl,_⟩|⟨rfl,rfl,rfl,rfl,rfl,_⟩|⟨rfl,rfl,rfl,rfl,rfl,_⟩|⟨rfl,rfl,rfl,rfl,rfl,_⟩:=d
 all_goals
  go_enter func293,ntmps293
  go_wp2_with(first|(go_at_call 92;refine be H ?_;rintro w1⟨f,C7⟩;obtain⟨x,hf,_,I6,hL⟩:=f.mine ur FR;obtain⟨p1,p3,p4⟩:=q9 Q _ x;have R:=qd (kB A1 f);have U:=qd C7)|(refine be (M _ U) ?_;rintro w2⟨B8,C8⟩;have P:=qd B8;have T:=qd C8))
  go_ret;exact⟨R.trans P,_,rfl,q9 T,q,uq,Flat.leaf _ _⟩
end Go.Proofs.YtmepkbgodcffoaaGreatDoor
