/- The contract of lex.qu -/
import Derived.Test.YtdmmmgodfceilaaGreatDoorM00
import Derived.Deep.RegionWith
import Derived.Laws.Concat
set_option maxHeartbeats 16000000
set_option maxRecDepth 100000
namespace Go.Proofs.YtdmmmgodfceilaaGreatDoor
open Go.RowKit Go.Proofs.Tryz
open Go renaming Value->Ap,World->Ao
open Go.Ending renaming returned->Ak
open Go.IntKind renaming i64->J
open Go.Obj renaming cells->Al
open Go.Value renaming agg->Ai,bool->Ah,int->I,pointer->Ag,slice->C,string->Y,tuple->Aj
open Option renaming none->O,some->G
open Or renaming inl->Am,inr->An
variable{p:Addr}{s:tq}{l t xs:tu}{k lo n rb:Nat}{c:UInt8}{v:Ap}{W a w w' w1:Ao}
theorem qqw{wr:Ao}{B:Nat}{xs:List Ap}{e:TypeId}(g:Below B W wr)(i:B<=wr.1.size)(b:wr.ownsRow B e 1 v n xs)(o:Obj)
  (f:(wr.alloc o).grownBy w1 v.ownBlock):Below B W w1:=
 (g.alloc i o).grown f ud λk d=>(b.lt k d).1
theorem qri(c:UInt8):((c.toNat:Int) != 39)=!(c==39):=by simp only[bne,vb7]
theorem kx(h:vm (l.drop 1)=G (xs,k)):vP l=⟨4,0,xs⟩/\yi l=k+1:=by
 unfold vP yi;rw[h];exact⟨rfl,rfl⟩
theorem qdn(h:vm (l.drop 1)=O):vP l=qi 1/\yi l=l.length:=by
 unfold vP yi;rw[h];exact⟨rfl,rfl⟩
theorem qtg(s:tq)(h0:0<s.size)(hs:s.size<=140737488355328)(w:Ao):
  ut 205 #[Y s] w (Aj #[tkV (vP s.data.toList) 0,I J (yi s.data.toList)]):=by
 have S:=qu s;obtain⟨F,H,M,Q,P⟩:=info_parts Tryz.info5u;obtain⟨TK,N⟩:∃t,vP s.data.toList=t:=⟨_,rfl⟩;obtain⟨Z,K⟩:∃t,yi s.data.toList=t:=⟨_,rfl⟩;rw[N,K];have b:=qd N;have z:=qd K;go_enter func205,ntmps205
 go_wp2
 go_loopw [4,5] (λv i wr=>∃(k:Nat) (xs:tu),1<=k/\k<=s.size/\i=I J k/\Hid (QAt s.data.toList k xs)/\xs.length<k/\wr.ownsRow (w.1.size+1) 5 1 v xs.length (xs.map λc=>I .u8 (c.toNat:Int))/\Below (w.1.size+1) (w.alloc (Al #[I J 0,I J 0,I J 0,Y ⟨#[]⟩] 154)) wr)
  (λ_ i _=>s.size - (intOf i).toNat)
 exact⟨1,[],ui,ub,rfl,qd (QAt.start _),uc,dy _ _ _ _,uj⟩;obtain⟨k,xs,r,hk,rfl,hq,X,g,m⟩:=hrel;have L:w.1.size+1<=wr.1.size:=by have:=m.size;simpa using this
 have VD:=vcw g;have o:Below (w.alloc (Al #[I J 0,I J 0,I J 0,Y ⟨#[]⟩] 154)).1.size (w.alloc (Al #[I J 0,I J 0,I J 0,Y ⟨#[]⟩] 154)) wr:=by simpa using m
 obtain⟨x,KR⟩:=qk o
 by_cases A1:k<s.size
 .cases hc:(s[k]==39) with
  | false=>
   have A:Hid (QAt s.data.toList (k+1) (xs++[s[k]])):=qd (hq.one r ub (by rw[qD s k A1];simpa using hc));have R:((s[k].toNat:Int)==39)=false:=by rw[vb7];exact hc
   go_wp2_with(at_builtin;refine wpList_append_own _ rfl _ _ 65 rfl (w.1.size+1) 5 F (I .u8 0) 1 1 underlying65 H M Q P rfl ue _ _ _ rfl (g.alloc _) ⟨wr.1.size,0,O⟩ 1 1 [I .u8 (s[k].toNat:Int)] rfl rfl ?c1 ?c2 ?c3 ?c4 ?c5 ?_)
   case c1=>
    intro j u d
    match j,d with
    | 0,d=>simp at d;subst d;simp[Addr.add]
   case c2=>intro u f;simp at f;subst f;rfl
   case c3=>unfold maxLen;omega
   case c4=>omega
   case c5=>simp;omega
   intro v' w1 B D _;have E:=qqw m L g _ D;have y:w1.ownsRow (w.1.size+1) 5 1 v' (xs++[s[k]]).length ((xs++[s[k]]).map λc=>I .u8 (c.toNat:Int)):=by simpa using B
   go_wp2
   go_roundw
   case rel=>exact⟨k+1,xs++[s[k]],ub,ub,by go_num,A,ud,y,E⟩
   simp[intOf];omega
  | true=>
   have R:((s[k].toNat:Int)==39)=true:=by rw[vb7];exact hc
   have C:s.data.toList[k]'ub=39:=by rw[qD s k A1];simpa using hc
   by_cases h2:k+1<s.size
   .cases hd:(s[k+1]==39) with
    | true=>
     have A:Hid (QAt s.data.toList (k+2) (xs++[39])):=qd (hq.two r ub C (by rw[qD s (k+1) h2];simpa using hd));have U:((s[k+1].toNat:Int) != 39)=false:=by rw[qri,hd];rfl
     have KV:(s[k+1].toNat:Int)=39:=by rw[show s[k+1]=39 by simpa using hd];rfl
     have T:((k:Int)+1==(s.size:Int))=false:=bh.2 ub
     go_wp2_with(at_builtin;refine wpList_append_own _ rfl _ _ 65 rfl (w.1.size+1) 5 F (I .u8 0) 1 1 underlying65 H M Q P rfl ue _ _ _ rfl (g.alloc _) ⟨wr.1.size,0,O⟩ 1 1 [I .u8 39] rfl rfl ?c1 ?c2 ?c3 ?c4 ?c5 ?_)
     case c1=>
      intro j u d
      match j,d with
      | 0,d=>simp at d;subst d;simp[Addr.add]
     case c2=>intro u f;simp at f;subst f;rfl
     case c3=>unfold maxLen;omega
     case c4=>omega
     case c5=>simp;omega
     intro v' w1 B D _;have E:=qqw m L g _ D;have y:w1.ownsRow (w.1.size+1) 5 1 v' (xs++[(39:UInt8)]).length ((xs++[(39:UInt8)]).map λc=>I .u8 (c.toNat:Int)):=by simpa using B
     go_wp2
     go_roundw
     case rel=>exact⟨k+2,xs++[39],ub,ub,by go_num,A,ud,y,E⟩
     simp[intOf];omega
    | false=>
     have e:Hid (vm (s.data.toList.drop 1)=G (xs,k)):=qd (hq.close r ub C (λ_=>by rw[qD s (k+1) h2];simpa using hd));have U:((s[k+1].toNat:Int) != 39)=true:=by rw[qri,hd];rfl
     have T:((k:Int)+1==(s.size:Int))=false:=bh.2 ub
     go_wp2
     refine bj (by simp[go_sem,x];rfl) rfl ⟨?_, ?_⟩
     all_goals go_light
     .exact kE (by rw[<-q9 b,(kx (q9 e)).1]) (by rw[<-q9 b,(kx (q9 e)).1]) (by rw[<-q9 b,(kx (q9 e)).1]) (by rw[<-q9 z,(kx (q9 e)).2];go_num)
     exact(((((vf o).setCell uc _).setCell uc _).setCell uc _).setCell uc _)
   have e:Hid (vm (s.data.toList.drop 1)=G (xs,k)):=qd (hq.close r ub C (λh=>absurd h ub))
   go_wp2
   refine bj (by simp[go_sem,x];rfl) rfl ⟨?_, ?_⟩
   all_goals go_light
   .exact kE (by rw[<-q9 b,(kx (q9 e)).1]) (by rw[<-q9 b,(kx (q9 e)).1]) (by rw[<-q9 b,(kx (q9 e)).1]) (by rw[<-q9 z,(kx (q9 e)).2];go_num)
   exact(((((vf o).setCell uc _).setCell uc _).setCell uc _).setCell uc _)
 have q:Hid (vm (s.data.toList.drop 1)=O):=qd (hq.over ub)
 go_wp2
 refine bj (by simp[go_sem,x];rfl) rfl ⟨?_, ?_⟩
 all_goals go_light
 exact kE (by rw[<-q9 b,(qdn (q9 q)).1];rfl) (by rw[<-q9 b,(qdn (q9 q)).1];rfl) (by rw[<-q9 b,(qdn (q9 q)).1];rfl) (by rw[<-q9 z,(qdn (q9 q)).2,S]);exact(((((vf o).setCell uc _).setCell uc _).setCell uc _).setCell uc _)
def vh(l:List UInt8):Tk:=match l with
 | []=>qi 1
 | c::_=>if yH c then j9 l else if jj c then xN l else if c==39 then vP l else qi (xG l)
def xq(l:List UInt8):Nat:=match l with
 | []=>1
 | c::_=>if yH c then qB l else if jj c then qA jj l else if c==39 then yi l else yJ l
theorem vde(s:tq)(h:0<s.size):
  vh s.data.toList=(if yH s[0] then j9 s.data.toList else if jj s[0] then xN s.data.toList else if s[0]==39 then vP s.data.toList else qi (xG s.data.toList)) /\
  xq s.data.toList=(if yH s[0] then qB s.data.toList else if jj s[0] then qA jj s.data.toList else if s[0]==39 then yi s.data.toList else yJ s.data.toList):=by
 have e:=cj (l:=s.data.toList) (i:=0) (by rw[qu];exact h);rw[dw,qD s 0 h]at e;constructor
 .conv=>lhs;rw[e]
  conv=>rhs;rw[e]
  rfl
 conv=>lhs;rw[e]
 conv=>rhs;rw[e]
 rfl
theorem qwj(s:tq)(j:0<s.size)(m:s.size<=140737488355328)(w:Ao)(y:ErrOk w):
  ut 167 #[Y s] w (Aj #[tkV (vh s.data.toList) 0,I J (xq s.data.toList)]):=by
 obtain⟨e,d⟩:=vde s j;have x:s.size<=maxLen:=by unfold maxLen;omega
 have z:Hid (∀o,ErrOk (w.alloc o)):=qd λo=>y.alloc o
 cases b:yH s[0] with
 | true=>
  rw[b,bo rfl]at e d;rw[e,d];have i:=qd b;go_enter func167,ntmps167
  go_wp2_with(first|(go_at_call 201;refine be (vS _ _) ?_;rintro w' rfl;rw[show qbj (s[0].toNat:Int)=true from q9 i])|(go_at_call 202;refine be (vh3 _ m _) λw' b=>?_;obtain⟨f,q⟩:=qk b;have r:=b.size;simp only[tkV]))
  refine bj (by simp[go_sem,f];rfl) rfl ⟨?_, ?_⟩
  all_goals go_light
  rfl;exact((((vf b).setCell uc _).setCell uc _).setCell uc _).setCell uc _
 | false=>
  rw[b,ak uc]at e d;have i:=qd b
  cases hd:jj s[0] with
  | true=>
   rw[hd,bo rfl]at e d;rw[e,d];have g:=qd hd;go_enter func167,ntmps167
   go_wp2_with(first|(go_at_call 201;refine be (vS _ _) ?_;rintro w' rfl;rw[show qbj (s[0].toNat:Int)=false from q9 i])|(go_at_call 203;refine be (jX _ _) ?_;rintro w' rfl;rw[show qbt (s[0].toNat:Int)=true from q9 g])|(go_at_call 204;refine be (qt6 _ j m g _ (z _)) λw' b=>?_;obtain⟨f,q⟩:=qk b;have r:=b.size;simp only[tkV]))
   refine bj (by simp[go_sem,f];rfl) rfl ⟨?_, ?_⟩
   all_goals go_light
   rfl;exact((((vf b).setCell uc _).setCell uc _).setCell uc _).setCell uc _
  | false=>
   rw[hd,ak uc]at e d;have g:=qd hd
   cases hq:(s[0]==39) with
   | true=>
    rw[hq,bo rfl]at e d;rw[e,d];have u:((s[0].toNat:Int)==39)=true:=by rw[vb7];exact hq
    go_enter func167,ntmps167
    go_wp2_with(first|(go_at_call 201;refine be (vS _ _) ?_;rintro w' rfl;rw[show qbj (s[0].toNat:Int)=false from q9 i])|(go_at_call 203;refine be (jX _ _) ?_;rintro w' rfl;rw[show qbt (s[0].toNat:Int)=false from q9 g])|(go_at_call 205;refine be (qtg _ j m _) λw' b=>?_;obtain⟨f,q⟩:=qk b;have r:=b.size;simp only[tkV]))
    refine bj (by simp[go_sem,f];rfl) rfl ⟨?_, ?_⟩
    all_goals go_light
    rfl;exact((((vf b).setCell uc _).setCell uc _).setCell uc _).setCell uc _
   | false=>
    rw[hq,ak uc]at e d;rw[e,d];have u:((s[0].toNat:Int)==39)=false:=by rw[vb7];exact hq
    go_enter func167,ntmps167
    go_wp2_with(first|(go_at_call 201;refine be (vS _ _) ?_;rintro w' rfl;rw[show qbj (s[0].toNat:Int)=false from q9 i])|(go_at_call 203;refine be (jX _ _) ?_;rintro w' rfl;rw[show qbt (s[0].toNat:Int)=false from q9 g])|(go_at_call 206;refine be (veb _ j x _) λw' b=>?_;obtain⟨f,q⟩:=qk b;simp only[tkV]))
    refine bj (by simp[go_sem,f];rfl) rfl ⟨?_, ?_⟩
    all_goals go_light
    rfl;exact((((vf b).setCell uc _).setCell uc _).setCell uc _).setCell uc _
def qS(l:List UInt8)(k:Nat):Nat:=k+qA spU (l.drop k)
def qQ(l:List UInt8)(k:Nat):Tk:=if qS l k<l.length then vh (l.drop (qS l k)) else qi 0
def vk(l:List UInt8)(k:Nat):Nat:=if qS l k<l.length then qS l k+xq (l.drop (qS l k)) else l.length
theorem qje(l:tu)(k:Nat)(h:k<=l.length):qS l k<=l.length:=by
 have:=gC spU (l.drop k);rw[dj]at this;unfold qS;omega
theorem qxo(l:tu)(h:0<l.length):yJ l<=l.length:=by
 unfold yJ;split
 simp at h;simp
 split<;>simp
theorem vfc:∀(n:Nat) (l:tu),l.length<=n->∀r,vm l=G r->r.2<=l.length:=by
 intro n
 induction n with
 | zero=>
  intro l b r h;have:l=[]:=de ub;subst this;simp[vm]at h
 | succ n ih=>
  intro l b r h
  match l,b,h with
  | [],_,h=>simp[vm]at h
  | [c],_,h=>
   simp only[vm]at h
   split at h
   simp at h;subst h;simp;simp at h
  | c::d::t,b,h=>
   simp only[vm]at h;simp only[fk]at b
   split at h
   split at h
   cases hq:vm t with
   | none=>rw[hq]at h;simp at h
   | some q=>
    rw[hq]at h;simp at h;subst h;have:=ih t ub q hq;simp;omega
   simp at h;subst h;simp
   cases hq:vm (d::t) with
   | none=>rw[hq]at h;simp at h
   | some q=>
    rw[hq]at h;simp at h;subst h;have:=ih (d::t) ud q hq;simp at this |-;omega
theorem vfd(l:tu)(h:0<l.length):yi l<=l.length:=by
 unfold yi;split
 rename_i r b;have:=vfc _ (l.drop 1) ui r b;rw[dj]at this;omega;exact ui
theorem qit(l:tu)(h:0<l.length):xq l<=l.length:=by
 cases l with
 | nil=>simp at h
 | cons c t=>
  simp only[xq]
  split
  exact xh _
  split
  exact gC _ _
  split
  exact vfd _ h;exact qxo _ h
theorem qdg(l:tu)(k:Nat):vk l k<=l.length:=by
 unfold vk;split
 have:=qit (l.drop (qS l k)) (by rw[dj];omega);rw[dj]at this;omega;exact ui
theorem qrh{t:Tk}{p d z b:Int}(hp:p=d)(e:z=b):
  Ak (Aj #[Ai #[I J t.A,I J p,I J t.K,Y (BS t.V)],I J z])=Ak (Aj #[tkV t d,I J b]):=by
 rw[hp,e];rfl
theorem veg(s:tq)(Q:s.size<=140737488355328)(f:Nat)(G:f<=s.size)(w:Ao)(C:ErrOk w):
  ut 118 #[Y s,I J f] w (Aj #[tkV (qQ s.data.toList f) (qS s.data.toList f),I J (vk s.data.toList f)]):=by
 have E:=qu s;have K:=qje s.data.toList f ub;have N:Hid (∀o,ErrOk (w.alloc o)):=qd λo=>C.alloc o
 clear C;obtain⟨A,d⟩:∃a,qS s.data.toList f=a:=⟨_,rfl⟩;have u:qQ s.data.toList f=if A<s.data.toList.length then vh (s.data.toList.drop A) else qi 0:=by rw[<-d];rfl
 have r:vk s.data.toList f=if A<s.data.toList.length then A+xq (s.data.toList.drop A) else s.data.toList.length:=by rw[<-d];rfl
 obtain⟨T,y⟩:∃t,qQ s.data.toList f=t:=⟨_,rfl⟩;obtain⟨Z,x⟩:∃t,vk s.data.toList f=t:=⟨_,rfl⟩;rw[y]at u;rw[x]at r;rw[d]at K;rw[d,y,x];have O:Hid (A=f+qA spU (s.data.toList.drop f)):=qd (by rw[<-d];rfl);have m:=qd u;have j:=qd r;clear u r y x d;go_enter func118,ntmps118
 go_wp2
 go_loop [6] (λi=>∃k:Nat,f<=k/\k<=s.size/\i=I J k/\Hid (A=qA spU (s.data.toList.drop k)+k)) (λi=>s.size - (intOf i).toNat)
 exact⟨f,ui,G,rfl,qd (by rw[Nat.add_comm];exact q9 O)⟩;obtain⟨k,S,R,rfl,g⟩:=hrel
 have more:∀e:k<s.size,spU s[k]=true->Hid (A=qA spU (s.data.toList.drop (k+1))+(k+1)):=λe b=>qd (by
  have:=vH spU s.data.toList k ub b;rw[q9 g,this];omega)
 have done1:∀e:k<s.size,spU s[k]=false->A=k:=λe b=>by
  have:=vR spU s.data.toList k ub b;rw[q9 g,this];omega
 have done2:¬k<s.size->A=k:=λe=>by
  have:=vX spU s.data.toList k ub;rw[q9 g,this];omega
 clear g
 by_cases e:k<s.size
 .cases b:spU s[k] with
  | true=>
   have M:=more e b;have z:=qd b;clear more done1 done2 b
   go_wp2_with(go_at_call 166;refine be (qd3 _ _) ?_;rintro w' rfl;rw[show spB (s[k].toNat:Int)=true from q9 z])
   go_round
   case rel=>exact⟨k+1,ub,ub,by go_num,M⟩
   simp[intOf];omega
  | false=>
   have d:=done1 e b;have z:=qd b;clear more done1 done2 b;subst d;rw[bo ub]at m j;have B:(s.extract A s.size).data.toList=s.data.toList.drop A:=Lib.extract_to_end s A;have P:=qit (s.data.toList.drop A) (by rw[dj];omega);rw[dj,E]at P;have L:=qd B;clear B
   go_wp2_with(first|(go_at_call 166;refine be (qd3 _ _) ?_;rintro w' rfl;rw[show spB (s[A].toNat:Int)=false from q9 z])|(go_at_call 167;refine be (qwj _ ud ud _ (N _)) λw' q=>?_;obtain⟨H,F⟩:=qk q;have D:w.1.size<w'.1.size:=(by have:=q.size;simp at this;omega);rw[q9 L];simp only[tkV]))
   refine bj (by simp[go_sem,H,D];rfl) rfl ⟨?_, ?_⟩
   all_goals go_light
   rw[q9 m,q9 j];exact qrh rfl ub;exact(((((vf q).setCell uc _).setCell uc _).setCell uc _).setCell uc _).alloc ud _
 have d:=done2 e;clear more done1 done2;subst d;rw[ak ub]at m j
 go_wp2
 refine tw ⟨?_, ?_⟩
 all_goals go_light
 rw[q9 m,q9 j];exact qrh (t:=qi 0) ub ub;exact(uj).alloc ui _
def yR(l:List UInt8):Bool:=decide (0<qB l)&&decide (qB l=l.length)&&(yf l==2)
theorem qno(h:qB l=l.length):∀c∈l,c.toNat<128:=by
 have:=qfn l;rw[h,im]at this;exact this
theorem qsx(s:tq)(j:s.size<=140737488355328)(w:Ao):
  ut 123 #[Y s] w (Ah (yR s.data.toList)):=by
 have d:s.size<=maxLen:=by unfold maxLen;omega
 have m:=qu s;have g:yR s.data.toList=(decide (0<qB s.data.toList)&&decide (qB s.data.toList=s.size)&&(yf s.data.toList==2)):=by unfold yR;rw[m]
 have b:=λh=>qno (l:=s.data.toList) h
 rw[g];generalize hz:qB s.data.toList=z at *;generalize hk:yf s.data.toList=k at *;have e:=qd hz;have o:=qd hk;clear hz hk g
 by_cases h0:0<z
 .by_cases h1:z=s.size
  .have HA:=qd (b ub)
   have i:((z:Int)==(s.size:Int))=true:=ew.2 ub;have f:=qd h1;clear b h1;go_enter func123,ntmps123
   go_wp2_with(first|(go_at_call 173;refine be (xA _ d _) ?_;rintro w' rfl;rw[q9 e])|(go_at_call 174;refine be (gH _ j HA _) λw' q=>?_;rw[q9 o]))
   all_goals(go_ret;exact⟨qY (by have:=q9 f;simp_all),by assumption⟩)
  have i:((z:Int)==(s.size:Int))=false:=bh.2 ub;have f:=qd h1;clear b h1;go_enter func123,ntmps123
  go_wp2_with(first|(go_at_call 173;refine be (xA _ d _) ?_;rintro w' rfl;rw[q9 e]))
  go_ret;exact⟨qY (by have:=q9 f;simp[this]),uj⟩
 clear b;go_enter func123,ntmps123
 go_wp2_with(first|(go_at_call 173;refine be (xA _ d _) ?_;rintro w' rfl;rw[q9 e]))
 go_ret;exact⟨qY ud,uj⟩
structure St where
 tk:Tk
 M:Nat
 B:Nat
 op:Nat
structure RdAt(w:Ao)(rb:Nat)(s:ByteArray)(st:St):Prop where
 c0:w.cell? ⟨rb,0,O⟩=G (Y s)
 c1:w.cell? ⟨rb,1,O⟩=G (I J st.tk.A)
 c2:w.cell? ⟨rb,2,O⟩=G (I J st.M)
 c3:w.cell? ⟨rb,3,O⟩=G (I J st.tk.K)
 c4:w.cell? ⟨rb,4,O⟩=G (Y (BS st.tk.V))
 c5:w.cell? ⟨rb,5,O⟩=G (I J st.B)
 c6:w.cell? ⟨rb,6,O⟩=G (I J st.op)
 fz:∀j,w.frozen? ⟨rb,j,O⟩=false
structure Kept(rb:Nat)(w w':Ao):Prop where
 os:w'.os=w.os
 tape:w'.tape=w.tape
 output:w'.output=w.output
 size:w.1.size<=w'.1.size
 block:∀k,k<w.1.size->k≠rb->w'.1[k]?=w.1[k]?
theorem Kept.refl(rb:Nat)(w:Ao):Kept rb w w:=⟨rfl,rfl,rfl,ui,λ_ _ _=>rfl⟩
theorem Kept.trans{b c:Ao}(h:Kept rb a b)(k:Kept rb b c):Kept rb a c:=
 ⟨k.os.trans h.os,k.tape.trans h.tape,k.output.trans h.output,bs h.size k.size,λi e d=>(k.block i (aq e h.size) d).trans (h.block i e d)⟩
theorem Kept.of_below(h:Xb w w'):Kept rb w w':=⟨h.os,h.tape,h.output,h.size,λk b _=>h.block k b⟩
theorem Kept.drew(h:Kept rb a w):Kept rb a w.drew:=⟨h.os,h.tape,h.output,h.size,h.block⟩
theorem Kept.setCell(h:Kept rb a w)(j:Nat)(u:Ap):Kept rb a (w.setCell ⟨rb,j,O⟩ u):=by
 have b:=(Below.refl 0 w).setCell (p:=⟨rb,j,O⟩) (bt _) u;refine⟨b.os.trans h.os,b.tape.trans h.tape,b.output.trans h.output,bs h.size b.size,λk e d=>?_⟩;rw[au w ⟨rb,j,O⟩ u k d];exact h.block k e d
theorem Kept.alloc(h:Kept rb a w)(o:Obj):Kept rb a (w.alloc o):=
 h.trans (Kept.of_below (uj.alloc ui o))
theorem RdAt.below{st:St}(h:RdAt w rb s st)(b:Xb w w')(d:rb<w.1.size):RdAt w' rb s st:=
 ⟨(b.cell d).trans h.c0,(b.cell d).trans h.c1,(b.cell d).trans h.c2,(b.cell d).trans h.c3,(b.cell d).trans h.c4,(b.cell d).trans h.c5,(b.cell d).trans h.c6,λj=>(b.frozen d).trans (h.fz j)⟩
theorem ErrOk.T(h:ErrOk w)(k:Kept rb w w')(f:3<rb):ErrOk w':=by
 obtain⟨b,ev,e,d⟩:=h;refine⟨aq b k.size,ev, ?_,d⟩;rw[aw (w:=w) (w':=w') (k.block _ b (by show 3≠rb;omega))];exact e
def qh(s:ByteArray)(st:St):St:=⟨qQ s.data.toList st.B,qS s.data.toList st.B,vk s.data.toList st.B,st.op⟩
theorem yA(rb:Nat)(s:tq)(st:St)(w:Ao)(f:s.size<=140737488355328)(g:st.B<=s.size)(b:RdAt w rb s st)(A:rb<w.1.size)(h:ErrOk w):
  ua 81 #[Ag (G ⟨rb,0,O⟩)] w λe w'=>e=Ak (Aj #[])/\RdAt w' rb s (qh s st)/\Kept rb w w':=by
 have z:=qd b;obtain⟨c0,H,F,E,c4,D,C,fz⟩:=b;go_enter func81,ntmps81
 go_wp2
 go_region_with(go_at_call 118;refine be (veg s f st.B g _ (by exact h)) λw1 B=>?_;have d:Xb w w1:=((Below.refl w.1.size w).drew).trans B;obtain⟨y,x,u,r,q,o,m,i⟩:=(q9 z).below d A;simp only[tkV])
 all_goals(go_wp2)
 all_goals go_end0
 all_goals refine⟨rfl,⟨?_, ?_, ?_, ?_, ?_, ?_, ?_, ?_⟩,(((((Kept.of_below d).setCell 1 _).setCell 2 _).setCell 3 _).setCell 4 _).setCell 5 _⟩
 all_goals first|(simp[go_sem,qh,y,x,u,r,q,o,m];done)|(intro j;simp[go_sem,i];done)
structure V where
 A:Int
 K:Int
 V:List UInt8
 deriving DecidableEq
def vV(v:V):Ap:=Ai #[I J v.A,I J v.K,Y (BS v.V)]
def nV:V:=⟨0,0,[]⟩
def bV(b:Bool):V:=⟨1,if b then 1 else 0,[]⟩
def iV(n:Int):V:=⟨2,n,[]⟩
def tV(s:List UInt8):V:=⟨3,0,s⟩
theorem zF(b:Bool)(w:Ao):
  ut 91 #[Ah b] w (vV (bV b)):=by
 cases b
 all_goals
  go_enter func91,ntmps91
  go_wp2
  refine tw ⟨rfl,uj.alloc ui _⟩
theorem kF(n:Int)(w:Ao):
  ut 89 #[I J n] w (vV (iV n)):=by
 go_enter func89,ntmps89
 go_wp2
 refine tw ⟨rfl,uj.alloc ui _⟩
theorem vbf(s:tq)(w:Ao):
  ut 90 #[Y s] w (vV (tV s.data.toList)):=by
 go_enter func90,ntmps90
 go_wp2
 refine tw ⟨rfl,uj.alloc ui _⟩
theorem jT(w:Ao):
  ut 175 #[] w (vV nV):=by
 go_enter func175,ntmps175
 go_wp2
 refine tw ⟨rfl,uj.alloc ui _⟩
def jA(x y:V):Bool:=x.A==2&&y.A==2
theorem qK(w:Ao)(o b:Obj):Xb w ((w.alloc o).alloc b):=(uj.alloc ui o).alloc uc b
theorem zk(w:Ao)(o b o'':Obj):Xb w (((w.alloc o).alloc b).alloc o''):=(qK w o b).alloc ud o''
theorem yj(x y:V)(w:Ao):
  ut 176 #[vV x,vV y] w (Ah (jA x y)):=by
 unfold jA vV;go_enter func176,ntmps176
 go_wp2
 all_goals
  go_ret;exact⟨qY (by simp_all),qK _ _ _⟩
theorem qg(b:Xb w W)(d:Xb W w'):Xb w w':=b.trans (d.mono b.size)
def yq(x:V):V:=if x.A==1 then bV (x.K==0) else nV
theorem qrm(x:V)(w:Ao):
  ut 180 #[vV x] w (vV (yq x)):=by
 unfold yq
 cases hk:(x.A==1) with
 | true=>
  have f:(x.A != 1)=false:=by simp only[bne,hk];rfl
  simp only[vV];go_enter func180,ntmps180
  go_wp2_with(go_at_call 91;refine be (zF _ _) λw' b=>?_;obtain⟨d,e⟩:=qk b;simp only[vV])
  refine bj (by simp[go_sem,d]<;>rfl) rfl ⟨rfl, ?_⟩;exact((((qg (qK _ _ _) b).setCell uc _).setCell uc _).setCell uc _)
 | false=>
  have f:(x.A != 1)=true:=by simp only[bne,hk];rfl
  simp only[vV];go_enter func180,ntmps180
  go_wp2_with(go_at_call 175;refine be (jT _) λw' b=>?_;obtain⟨d,e⟩:=qk b;simp only[vV])
  refine bj (by simp[go_sem,d]<;>rfl) rfl ⟨rfl, ?_⟩;exact((((qg (qK _ _ _) b).setCell uc _).setCell uc _).setCell uc _)
theorem qpu(x:V)(w:Ao):
  ut 186 #[vV x] w (vV (bV (x.A==0))):=by
 simp only[vV];go_enter func186,ntmps186
 go_wp2_with(go_at_call 91;refine be (zF _ _) λw' b=>?_;obtain⟨d,e⟩:=qk b;simp only[vV])
 refine bj (by simp[go_sem,d]<;>rfl) rfl ⟨rfl, ?_⟩;exact((((qg (qK _ _ _) b).setCell uc _).setCell uc _).setCell uc _)
def eqV(x y:V):V:=if x.A==0||!(x.A==y.A) then nV else bV (decide (x=y))
def yQ(x y:V):V:=if jA x y then bV (decide (x.K<y.K)) else nV
def leV(x y:V):V:=if jA x y then bV (decide (x.K<=y.K)) else nV
theorem qrp{F:Nat}{b:Bool}(x y:V)(j:F=181/\decide (x.K<y.K)=b\/F=125/\decide (x.K<=y.K)=b)(w:Ao):
  Calls prog F #[vV x,vV y] w λe w'=>e=Ak (vV (if jA x y then bV b else nV))/\Xb w w':=by
 cases hk:jA x y
 all_goals
  have o:=qd hk;clear hk;simp only[if_true,if_false,dg]
  conv=>arg 3;simp only[vV]
  rcases j with⟨rfl,f⟩|⟨rfl,f⟩
  all_goals
   have q:=qd f;clear f
   first|go_enter func181,ntmps181|go_enter func125,ntmps125
   go_wp2_with(first|(go_at_call 176;refine be (yj x y _) λw1 g=>?_;rw[q9 o];obtain⟨r,z⟩:=qk g;have u:w.1.size+2<w1.1.size:=(by have:=g.size;simp at this;omega))|(go_at_call 91;rw[q9 q];refine be (zF _ _) λw2 d=>?_;obtain⟨i,m⟩:=qk d;simp only[vV])|(go_at_call 175;refine be (jT _) λw2 d=>?_;obtain⟨i,m⟩:=qk d;simp only[vV]))
   refine bj (by simp[go_sem,i,r,u]<;>rfl) rfl ⟨rfl, ?_⟩;exact((((qg (qg (zk _ _ _ _) g) d).setCell ud _).setCell ud _).setCell ud _)
theorem qks(x y:V)(w:Ao):ut 181 #[vV x,vV y] w (vV (yQ x y)):=qrp x y (Am ⟨rfl,rfl⟩) w
theorem pq(x y:V)(w:Ao):ut 125 #[vV x,vV y] w (vV (leV x y)):=qrp x y (An ⟨rfl,rfl⟩) w
theorem qmz(x y:V)(w:Ao):(binOp .eql 57 (vV x) (vV y)).run prog w=.ok (Ah (decide (x=y))) w:=by
 obtain⟨k,n,s⟩:=x;obtain⟨e,d,b⟩:=y;simp only[vV,V.mk.injEq]
 by_cases h1:k=e
 .by_cases h2:n=d
  .by_cases h3:s=b
   .subst h1 h2 h3
    simp[go_sem]
   simp[go_sem,h1,h2,h3,qP]
  simp[go_sem,h1,h2]
 simp[go_sem,h1]
theorem qfm(x y:V)(w:Ao):
  Calls prog 178 #[vV x,vV y] w λe w'=>e=Ak (vV (eqV x y))/\Xb w w':=by
 have g:=λw=>qmz x y w
 simp only[vV]at g;unfold eqV;generalize decide (x=y)=d at *;have q:∀a b:Int,(a != b)=!(a==b):=λ_ _=>rfl
 cases h0:(x.A==0)<;>cases h1:(x.A==y.A)
 all_goals
  simp only[ti,mx,ow,ry,dg,if_true,if_false]
  conv=>arg 3;simp only[vV]
  go_enter func178,ntmps178
  go_wp2_with((first|(go_at_call 91;refine(zF _ _).mono ?_)|(go_at_call 175;refine(jT _).mono ?_));rintro e w'⟨rfl,f⟩;obtain⟨o,m⟩:=qk f;have j:w.1.size+2<w'.1.size:=(by have:=f.size;simp at this;omega);have i:Xb w w':=(by first|exact qg (zk _ _ _ _) f|exact qg (by assumption) f);clear f;simp only[vV])
  refine bj (by simp[go_sem, *]<;>rfl) rfl ⟨rfl, ?_⟩;exact(((i.setCell ud _).setCell ud _).setCell ud _)
def ve(en pl:Int):Ending:=.panicked [{ v:=.iface 151 (Ai #[I J en,I J pl]),recovered:=false }]
theorem qf7(r:Ap)(b:Int)(w:Ao):
  ua 121 #[r,I J b] w λe w'=>e=ve 2 b/\w'=w:=by
 go_enter func121,ntmps121
 go_wp2
 exact⟨rfl,rfl,rfl⟩
theorem RdAt.X{st:St}(h:RdAt w rb s st)(o:Obj)(b:rb<w.1.size):RdAt (w.alloc o) rb s st:=
 h.below (uj.alloc ui o) b
theorem jZ(e:Kept rb W w1):(∀b o,b<W.1.size->¬b=rb->w1.cell? ⟨b,o,O⟩=W.cell? ⟨b,o,O⟩)/\(∀b o,b<W.1.size->¬b=rb->w1.frozen? ⟨b,o,O⟩=W.frozen? ⟨b,o,O⟩):=
 ⟨λb o h d=>aw (w:=W) (w':=w1) (a:=⟨b,o,O⟩) (e.block b h d),λb o h d=>cn (w:=W) (w':=w1) (a:=⟨b,o,O⟩) (e.block b h d)⟩
theorem Kept.later(h:Kept rb a w)(hp:a.1.size<=p.block)(u:Ap):Kept rb a (w.setCell p u):=by
 have b:=(Below.refl 0 w).setCell (p:=p) (bt _) u;refine⟨b.os.trans h.os,b.tape.trans h.tape,b.output.trans h.output,bs h.size b.size,λk e d=>?_⟩;rw[au w p u k ub];exact h.block k e d
theorem RdAt.setOther{st:St}(h:RdAt w rb s st)(hp:¬p.block=rb)(u:Ap):RdAt (w.setCell p u) rb s st:=by
 have d:=au w p u rb ub;have b:∀j,(w.setCell p u).cell? ⟨rb,j,O⟩=w.cell? ⟨rb,j,O⟩:=λj=>aw (w:=w) (w':=w.setCell p u) (a:=⟨rb,j,O⟩) d
 have e:∀j,(w.setCell p u).frozen? ⟨rb,j,O⟩=w.frozen? ⟨rb,j,O⟩:=λj=>cn (w:=w) (w':=w.setCell p u) (a:=⟨rb,j,O⟩) d
 exact⟨(b 0).trans h.c0,(b 1).trans h.c1,(b 2).trans h.c2,(b 3).trans h.c3,(b 4).trans h.c4,(b 5).trans h.c5,(b 6).trans h.c6,λj=>(e j).trans (h.fz j)⟩
theorem qhv(rb:Nat)(s:tq)(st:St)(k:Int)(w:Ao)(r:s.size<=140737488355328)(x:st.B<=s.size)(f:RdAt w rb s st)(A:rb<w.1.size)(y:ErrOk w)(g:st.tk.A=k):
  ua 83 #[Ag (G ⟨rb,0,O⟩),I J k] w λe w'=>e=Ak (tkV st.tk st.M)/\RdAt w' rb s (qh s st)/\Kept rb w w':=by
 have z:=qd f;obtain⟨c0,K,H,F,c4,E,D,fz⟩:=f;have u:(st.tk.A != k)=false:=by rw[g];simp
 have n0:¬w.1.size=rb:=ub;have B:¬w.1.size+1=rb:=ub;clear g;go_enter func83,ntmps83
 go_wp2_with(go_at_call 81;refine be (yA rb s st _ r x (z.below (qK _ _ _) A) ud ((y.alloc _).alloc _)) ?_;rintro w1⟨d,i⟩;obtain⟨b,C⟩:=jZ i;have d:=qd d;have q:Xc w1 w.1.size 0 (I J 0):=(b _ 0 ud n0).trans uc;have o:Xc w1 w.1.size 1 (I J 0):=(b _ 1 ud n0).trans uc;have m:Xc w1 w.1.size 2 (I J 0):=(b _ 2 ud n0).trans uc;have j:Xc w1 w.1.size 3 (Y ⟨#[]⟩):=(b _ 3 ud n0).trans uc)
 refine bj (by simp[go_sem,q,o,m,j]<;>rfl) rfl ⟨rfl, ?_, ?_⟩;exact(((d.setOther (by simpa using n0) _).setOther (by simpa using n0) _).setOther (by simpa using n0) _).setOther (by simpa using n0) _;exact(((((((Kept.refl rb w).alloc _).alloc _).trans i).later uc _).later uc _).later uc _).later uc _
theorem qpq(rb:Nat)(s:tq)(st:St)(k:Int)(w:Ao)(b:RdAt w rb s st)(m:rb<w.1.size)(d:¬st.tk.A=k):
  ua 83 #[Ag (G ⟨rb,0,O⟩),I J k] w λe w'=>e=ve 2 st.M/\Kept rb w w':=by
 obtain⟨c0,j,i,h,c4,g,f,fz⟩:=b;go_enter func83,ntmps83
 go_wp2_with(go_at_call 121;refine be (qf7 _ _ _) ?_;rintro w1 rfl;simp only[ve])
 exact⟨rfl,rfl,((Kept.refl rb w).alloc _).alloc _⟩
theorem RdAt.b{st:St}(h:RdAt w rb s st)(n:Nat)(m:Int)(b:m=n):RdAt (w.setCell ⟨rb,6,O⟩ (I J m)) rb s { st with op:=n }:=by
 obtain⟨c0,i,g,f,c4,e,d,fz⟩:=h;subst b;exact⟨by simp[go_sem,c0],by simp[go_sem,i],by simp[go_sem,g],by simp[go_sem,f],by simp[go_sem,c4],by simp[go_sem,e],by simp[go_sem,d],λj=>by simp[go_sem,fz]⟩
theorem size_setCell(w:Ao)(p:Addr)(u:Ap):(w.setCell p u).1.size=w.1.size:=uc
theorem vd3(rb:Nat)(s:tq)(st:St)(w:Ao)(r:s.size<=140737488355328)(u:st.B<=s.size)(f:RdAt w rb s st)(B:rb<w.1.size)(x:ErrOk w)(y:3<rb)(M:st.op<12):
  ua 210 #[Ag (G ⟨rb,0,O⟩)] w λe w'=>e=Ak (tkV st.tk st.M)/\RdAt w' rb s { qh s st with op:=st.op+1 }/\Kept rb w w':=by
 have z:=qd (f.b (st.op+1) ((st.op:Int)+1) ub);have g:=qd ((Kept.refl rb w).setCell 6 (I J ((st.op:Int)+1)));have A:=qd (x.T g y);obtain⟨c0,L,K,H,c4,F,E,fz⟩:=f;have n0:¬w.1.size=rb:=ub;have C:¬w.1.size+1=rb:=ub;go_enter func210,ntmps210
 go_wp2_with fail
 refine be (yA rb s { st with op:=st.op+1 } _ r u (z.below (qK _ _ _) (by rw[size_setCell];exact B)) ud ((A.alloc _).alloc _)) ?_;rintro w1⟨d,i⟩;obtain⟨b,D⟩:=jZ i;have d:=qd d;have q:w1.cell? ⟨w.1.size,0,O⟩=G (I J 0):=(b _ 0 ud n0).trans (by rw[bw _ _ _ uc,ch _ _ _ _ uc];rfl);have o:w1.cell? ⟨w.1.size,1,O⟩=G (I J 0):=(b _ 1 ud n0).trans (by rw[bw _ _ _ uc,ch _ _ _ _ uc];rfl);have m:w1.cell? ⟨w.1.size,2,O⟩=G (I J 0):=(b _ 2 ud n0).trans (by rw[bw _ _ _ uc,ch _ _ _ _ uc];rfl);have j:w1.cell? ⟨w.1.size,3,O⟩=G (Y ⟨#[]⟩):=(b _ 3 ud n0).trans (by rw[bw _ _ _ uc,ch _ _ _ _ uc];rfl)
 go_wp2
 refine bj (by simp[go_sem,q,o,m,j]<;>rfl) rfl ⟨rfl, ?_, ?_⟩;exact(((d.setOther (by simpa using n0) _).setOther (by simpa using n0) _).setOther (by simpa using n0) _).setOther (by simpa using n0) _;exact(((((((g.alloc _).alloc _).trans i).later uc _).later uc _).later uc _).later uc _)
theorem vd2(rb:Nat)(s:tq)(st:St)(w:Ao)(b:RdAt w rb s st)(m:rb<w.1.size)(j:st.op=12):
  ua 210 #[Ag (G ⟨rb,0,O⟩)] w λe w'=>e=ve 3 st.M/\Kept rb w w':=by
 obtain⟨c0,i,h,g,c4,f,d,fz⟩:=b;go_enter func210,ntmps210
 go_wp2
 exact⟨rfl,rfl,((Kept.refl rb w).alloc _).alloc _⟩
theorem vgk(rb:Nat)(s:tq)(st:St)(k:Int)(w:Ao)(f:s.size<=140737488355328)(g:st.B<=s.size)(d:RdAt w rb s st)(m:rb<w.1.size)(h:ErrOk w)(o:st.tk.A=k):
  ua 252 #[Ag (G ⟨rb,0,O⟩),I J k] w λe w'=>e=Ak (Ah true)/\RdAt w' rb s (qh s st)/\Kept rb w w':=by
 have i:=qd d;obtain⟨c0,y,x,u,c4,r,q,fz⟩:=d;go_enter func252,ntmps252
 go_wp2_with(go_at_call 81;refine be (yA rb s st _ f g i m h) ?_;rintro w1⟨b,j⟩;have b:=qd b)
 go_ret;exact⟨rfl,q9 b,j⟩
theorem vmm(rb:Nat)(s:tq)(st:St)(k:Int)(w:Ao)(b:RdAt w rb s st)(d:¬st.tk.A=k):
  ua 252 #[Ag (G ⟨rb,0,O⟩),I J k] w λe w'=>e=Ak (Ah false)/\w'=w:=by
 obtain⟨c0,j,i,h,c4,g,f,fz⟩:=b;go_enter func252,ntmps252
 go_wp2
 go_ret;exact⟨rfl,rfl⟩
def KsAt(w:Ao)(b:Nat)(ks:List Int):Prop:=∀(j:Nat) (k:Int),ks[j]?=G k->w.cell? ⟨b,j,O⟩=G (I J k)
def qwx(ks:List Int)(x:Int)(j:Nat):Int:=match ks with
 | []=>-1
 | k::t=>if x==k then j else qwx t x (j+1)
theorem qwy{ks:List Int}{x k:Int}{j:Nat}(h:ks[j]?=G k):qwx (ks.drop j) x j=if x==k then(j:Int) else qwx (ks.drop (j+1)) x (j+1):=by
 obtain⟨b,d⟩:=aj.1 h;rw[cj b,d];rfl
theorem vjp(ks:List Int)(x:Int):∀j:Nat,decide (0<=qwx ks x j)=ks.contains x:=by
 induction ks with
 | nil=>intro j;rfl
 | cons k t ih=>
  intro j;rw[show qwx (k::t) x j=if x==k then(j:Int) else qwx t x (j+1) from rfl,sr]
  by_cases h:(x==k)=true
  rw[bo h,h,ti];exact di ub;rw[ak h,mr.2 h,mx];exact ih _
theorem qsr(b cap:Nat)(ks:List Int)(x:Int)(w:Ao)(q:ks.length<=8)(m:KsAt w b ks):
  ua 207 #[C (G ⟨b,0,O⟩) ks.length cap,I J x] w λe w'=>e=Ak (I J (qwx ks x 0))/\w'=w:=by
 obtain⟨R,g⟩:∃r,qwx ks x 0=r:=⟨_,rfl⟩;rw[g];have o:=qd g;go_enter func207,ntmps207
 go_wp2
 go_loop [5,8] (λ_ i=>∃j:Nat,j<=ks.length/\i=I J j/\Hid (R=qwx (ks.drop j) x j)) (λ_ i=>ks.length - (intOf i).toNat)
 exact⟨0,bt _,rfl,qd (by rw[dw,q9 o])⟩;obtain⟨j,u,rfl,f⟩:=hrel
 by_cases A1:j<ks.length
 .obtain⟨k,hp⟩:∃k,ks[j]?=G k:=⟨_,ag A1⟩
  have y:=m j k hp;have hd:=qwy (x:=x) hp
  cases hx:(x==k) with
  | true=>
   rw[hx,bo rfl]at hd;have d:Hid (R=j):=qd (by rw[q9 f,hd])
   go_wp2
   go_ret;exact⟨jd (by rw[q9 d]),rfl⟩
  | false=>
   rw[hx,ak uc]at hd;have d:Hid (R=qwx (ks.drop (j+1)) x (j+1)):=qd (by rw[q9 f,hd])
   go_wp2
   go_round
   case rel=>exact⟨j+1,ub,by go_num,d⟩
   simp[intOf];omega
 have d:Hid (R=-1):=qd (by rw[q9 f,eh ub];rfl)
 go_wp2
 go_ret;exact⟨jd (by rw[q9 d]),rfl⟩
theorem qfz(b cap:Nat)(ks:List Int)(x:Int)(w:Ao)(f:ks.length<=8)(g:KsAt w b ks):
  ua 168 #[C (G ⟨b,0,O⟩) ks.length cap,I J x] w λe w'=>e=Ak (Ah (ks.contains x))/\w'=w:=by
 have d:=qd (vjp ks x 0);go_enter func168,ntmps168
 go_wp2_with(go_at_call 207;refine be (qsr _ _ _ _ _ f g) ?_;rintro w' rfl;generalize qwx ks x 0=r at d)
 all_goals(go_ret;exact⟨qY (by rw[<-q9 d]),rfl⟩)
def qef(k:Int):Int:=
 if k==5 then 6 else if k==6 then 7 else if k==16 then 8 else if k==17 then 9 else if k==18 then 10 else if k==19 then 11
 else if k==20 then 12 else if k==21 then 13 else if k==22 then 16 else if k==23 then 17 else if k==24 then 18 else 19
theorem qbr(k:Int)(w:Ao):
  ua 208 #[I J k] w λe w'=>e=Ak (I J (qef k))/\w'=w:=by
 go_enter func208,ntmps208
 go_wp2
 all_goals(go_ret;refine⟨jd ?_,rfl⟩;go_light;simp only[qef, *,if_true,dg,if_false])
structure Pay where
 op:Int
 M:Int
 K:Int
 V:List UInt8
 h:List UInt8
 P:List (List UInt8)
inductive Ast where
 | leaf (p:Pay)
 | un (p:Pay) (x:Ast)
 | bin (p:Pay) (x y:Ast)
 | tri (p:Pay) (x y z:Ast)
def TextsAt(lo:Nat)(w:Ao)(v:Ap)(ts:List (List UInt8)):Prop:=
 (ts=[]/\v=C O 0 0)\/∃g cap,v=C (G ⟨g,0,O⟩) ts.length cap/\lo<g/\g<w.1.size/\∀(j:Nat) (t:List UInt8),ts[j]?=G t->w.cell? ⟨g,j,O⟩=G (Y (BS t))
structure NodeAt(lo:Nat)(w:Ao)(b:Nat)(p:Pay)(sides:Ap):Prop where
 above:lo<b
 within:b<w.1.size
 c0:w.cell? ⟨b,0,O⟩=G (I J p.op)
 c1:w.cell? ⟨b,1,O⟩=G (I J p.M)
 c2:w.cell? ⟨b,2,O⟩=G sides
 c3:w.cell? ⟨b,3,O⟩=G (I J p.K)
 c4:w.cell? ⟨b,4,O⟩=G (Y (BS p.V))
 c5:w.cell? ⟨b,5,O⟩=G (Y (BS p.h))
 c6:∃tv,w.cell? ⟨b,6,O⟩=G tv/\TextsAt lo w tv p.P
def IsNode(lo:Nat)(w:Ao):Ap->Ast->Prop
 | v,.leaf p=>∃b,v=Ag (G ⟨b,0,O⟩)/\NodeAt lo w b p (C O 0 0)
 | v,.un p x=>∃b g v1,v=Ag (G ⟨b,0,O⟩)/\NodeAt lo w b p (C (G ⟨g,0,O⟩) 1 1)/\lo<g/\g<w.1.size/\w.cell? ⟨g,0,O⟩=G v1/\IsNode lo w v1 x
 | v,.bin p x y=>∃b g v1 v2,v=Ag (G ⟨b,0,O⟩)/\NodeAt lo w b p (C (G ⟨g,0,O⟩) 2 2)/\lo<g/\g<w.1.size/\w.cell? ⟨g,0,O⟩=G v1/\w.cell? ⟨g,1,O⟩=G v2/\IsNode lo w v1 x/\IsNode lo w v2 y
 | v,.tri p x y z=>∃b g v1 v2 v3,v=Ag (G ⟨b,0,O⟩)/\NodeAt lo w b p (C (G ⟨g,0,O⟩) 3 3)/\lo<g/\g<w.1.size/\w.cell? ⟨g,0,O⟩=G v1/\w.cell? ⟨g,1,O⟩=G v2/\w.cell? ⟨g,2,O⟩=G v3/\IsNode lo w v1 x/\IsNode lo w v2 y/\IsNode lo w v3 z
theorem TextsAt.T(b:Kept lo w w'){ts:List tu}(h:TextsAt lo w v ts):TextsAt lo w' v ts:=by
 rcases h with h|⟨g,cap,hv,f,d,i⟩;exact Am h;exact An ⟨g,cap,hv,f,aq d b.size,λj t e=>((jZ b).1 g j d ub).trans (i j t e)⟩
theorem NodeAt.T(e:Kept lo w w'){b:Nat}{p:Pay}{sides:Ap}(h:NodeAt lo w b p sides):NodeAt lo w' b p sides:=by
 obtain⟨i,f,c0,u,r,q,c4,o,tv,m,g⟩:=h;have d:=λj=>(jZ e).1 b j f ub
 exact⟨i,aq f e.size,(d 0).trans c0,(d 1).trans u,(d 2).trans r,(d 3).trans q,(d 4).trans c4,(d 5).trans o,tv,(d 6).trans m,g.T e⟩
theorem IsNode.T(f:Kept lo w w'):∀{t:Ast} {v:Ap},IsNode lo w v t->IsNode lo w' v t:=by
 have i:=λg j (e:lo<g) (d:g<w.1.size)=>(jZ f).1 g j d ub
 intro t
 induction t with
 | leaf p=>rintro v⟨b,rfl,h⟩;exact⟨b,rfl,h.T f⟩
 | un p x ih=>
  rintro v⟨b,g,m,rfl,h,e,d,q,o⟩;exact⟨b,g,m,rfl,h.T f,e,aq d f.size,(i g 0 e d).trans q,ih o⟩
 | bin p x y ihx ihy=>
  rintro v⟨b,g,m,r,rfl,h,e,d,q,A,o,u⟩;exact⟨b,g,m,r,rfl,h.T f,e,aq d f.size,(i g 0 e d).trans q,(i g 1 e d).trans A,ihx o,ihy u⟩
 | tri p x y z ihx ihy ihz=>
  rintro v⟨b,g,m,r,B,rfl,h,e,d,q,A,D,o,u,C⟩;exact⟨b,g,m,r,B,rfl,h.T f,e,aq d f.size,(i g 0 e d).trans q,(i g 1 e d).trans A,(i g 2 e d).trans D,ihx o,ihy u,ihz C⟩
inductive Res where
 | ok (t:Ast) (st:St)
 | err (en pl:Int)
structure Fine(s:ByteArray)(st:St):Prop where
 M:st.M<=s.size
 B:st.B<=s.size
 long:st.tk.A≠0->st.M<st.B
def Gives(rb:Nat)(s:ByteArray)(w:Ao)(op lo:Nat)(r:Res)(e:Ending)(w':Ao):Prop:=
 Kept rb w w'/\match r with
 | .ok t st=>∃v,e=Ak v/\IsNode rb w' v t/\RdAt w' rb s st/\Fine s st/\st.op=op/\lo<=st.M
 | .err en pl=>e=ve en pl
structure Ready(rb:Nat)(s:ByteArray)(w:Ao)(st:St):Prop where
 at':RdAt w rb s st
 lt:rb<w.1.size
 err:ErrOk w
 glob:3<rb
 U:Fine s st
 size:s.size<=140737488355328
def zI(K:Nat)(rb:Nat)(s:ByteArray)(op:Nat)(f:St->Res):Prop:=
 ∀(w:Ao) (st:St),Ready rb s w st->st.op=op->Calls prog K #[Ag (G ⟨rb,0,O⟩)] w (Gives rb s w op st.M (f st))
theorem Ready.T{st b:St}(h:Ready rb s w st)(d:Kept rb w w')(e:RdAt w' rb s b)(f:Fine s b):Ready rb s w' b:=
 ⟨e,aq h.lt d.size,h.err.T d h.glob,h.glob,f,h.size⟩
theorem qph{p:UInt8->Bool}(h:p c=true):0<qA p (c::t):=by simp[qA,h]
theorem qaz(l:tu)(h:0<l.length):0<xq l:=by
 cases l with
 | nil=>simp at h
 | cons c t=>
  simp only[xq]
  split
  rename_i b;simp[qB,b]
  split
  rename_i hd;exact qph hd
  split
  unfold yi;split
  omega;exact h;unfold yJ;split
  omega;omega
  split<;>omega
theorem qG(s:tq)(st:St)(h:st.B<=s.size):Fine s (qh s st):=by
 have d:=qje s.data.toList st.B (by rw[qu];exact h);have b:=qdg s.data.toList st.B;rw[qu]at d b;refine⟨d,b,λe=>?_⟩;show qS s.data.toList st.B<vk s.data.toList st.B;unfold vk
 by_cases hl:qS s.data.toList st.B<s.data.toList.length
 rw[bo hl];have:=qaz (s.data.toList.drop (qS s.data.toList st.B)) (by rw[dj];omega);omega;exfalso;apply e;show(qQ s.data.toList st.B).A=0;unfold qQ;rw[ak hl];rfl
theorem zp(s:tq)(st:St):st.B<=(qh s st).M:=by
 show st.B<=qS s.data.toList st.B;unfold qS;omega
def dig(n:Nat):UInt8:=UInt8.ofNat (48+n % 10)
def qcs(n:Nat):List UInt8:=if n<10 then[dig n] else qcs (n / 10)++[dig n]
termination_by n
theorem gO(h:n<10):qcs n=[dig n]:=by rw[qcs,bo h]
theorem pW(h:¬n<10):qcs n=qcs (n / 10)++[dig n]:=by rw[qcs,ak h]
theorem qmw(n:Nat):(dig n).toNat=48+n % 10:=by
 unfold dig;rw[UInt8.toNat_ofNat'];omega
theorem jP(a b:tu):BS a++BS b=BS (a++b):=by
 apply ByteArray.ext;show(BS a++BS b).data=_;rw[ByteArray.data_append];simp[BS]
theorem jf(c:Int)(w:Ao):ua 109 #[I .u8 c] w λe w'=>e=Ak (Ah (qbj c))/\w'=w:=by
 unfold qbj;go_enter func109,ntmps109
 go_wp2
 all_goals(go_ret;exact⟨qY ug,rfl⟩)
theorem yU(c:Int)(w:Ao):ua 157 #[I .u8 c] w λe w'=>e=Ak (Ah (qbt c))/\w'=w:=by
 unfold qbt;go_enter func157,ntmps157
 go_wp2
 all_goals(go_ret;exact⟨qY ug,rfl⟩)
theorem qjy(s:tq)(w:Ao):ua 159 #[Y s] w λe w'=>e=Ak (Ah (kwK s.data.toList != 2))/\w'=w:=by
 go_enter func159,ntmps159
 go_wp2
 all_goals
  go_ret;refine⟨?_,rfl⟩;simp only[gs]at *
  first
  | (rename_i f d;rw[f]at d;cases d;done)
  | (have b:(kwK s.data.toList != 2)=true:=(by simp only[kwK, *,if_true,dg,if_false];rfl);rw[b];rfl)
  | (have b:(kwK s.data.toList != 2)=false:=(by simp only[kwK, *,dg,if_false];rfl);rw[b];rfl)
theorem qqa(c:UInt8)(w:Ao):(convert 65 9 (C (G ⟨w.1.size,0,O⟩) 1 1)).run prog (w.alloc (Al #[I .u8 (c.toNat:Int)] 5))=.ok (Y (BS [c])) (w.alloc (Al #[I .u8 (c.toNat:Int)] 5)):=by
 refine run_convert_bytes_back (P:=prog) _ 65 9 5 ⟨w.1.size,0,O⟩ 1 [c] underlying65 underlying5 underlying9 ?_;intro j b;obtain rfl:j=0:=by simp at b;omega
 show(w.alloc _).cell? ⟨w.1.size,0,O⟩=G (I .u8 (c.toNat:Int));rw[ch _ _ _ _ rfl];rfl
theorem vb9(h:97<=c.toNat/\c.toNat<=122):((Lib.upperB c).toNat:Int)=(c.toNat:Int) - 32:=by
 have e:Lib.isLowerB c=true:=by
  unfold Lib.isLowerB;simp only[dh,fj,UInt8.le_iff_toNat_le];exact h
 unfold Lib.upperB;rw[bo e,UInt8.toNat_sub_of_le _ _ (by rw[UInt8.le_iff_toNat_le];show 32<=c.toNat;omega)];show((c.toNat - 32:Nat):Int)=_;omega
theorem vba(h:¬(97<=c.toNat/\c.toNat<=122)):Lib.upperB c=c:=by
 have e:¬Lib.isLowerB c=true:=by
  unfold Lib.isLowerB;simp only[dh,fj,UInt8.le_iff_toNat_le];exact h
 unfold Lib.upperB;rw[ak e]
theorem quj(h:k<s.size):Lib.toUpperA (s.data.toList.take (k+1))=Lib.toUpperA (s.data.toList.take k)++[Lib.upperB s[k]]:=by
 unfold Lib.toUpperA;rw[dn,dq,ag (by rw[qu];exact h),qD s k h];rfl
theorem vfi(s:tq)(m:s.size<=1000)(w:Ao):ut 158 #[Y s] w (Y (BS (Lib.toUpperA s.data.toList))):=by
 have j:=qd (Below.refl w.1.size w);go_enter func158,ntmps158
 go_wp2
 go_loopw [3,4] (λo i wr=>∃k:Nat,k<=s.size/\i=I J k/\o=Y (BS (Lib.toUpperA (s.data.toList.take k)))/\Hid (Xb w wr)) (λ_ i _=>s.size - (intOf i).toNat)
 exact⟨0,bt _,rfl,rfl,j⟩;obtain⟨k,q,rfl,rfl,B⟩:=hrel
 by_cases A1:k<s.size
 .have uT:=quj A1
  have d:∀w:Ao,(Op.stringOp .add (BS (Lib.toUpperA (s.data.toList.take k))) (BS [Lib.upperB s[k]])).run prog w=.ok (Y (BS (Lib.toUpperA (s.data.toList.take (k+1))))) w:=λw=>by
   rw[uT,<-jP];exact run_string_add_sum (P:=prog) (w:=w) _ _ (by rw[qJ,qJ];simp[Lib.toUpperA];omega)
  generalize BS (Lib.toUpperA (s.data.toList.take k))=O1 at d |-;generalize GP:BS (Lib.toUpperA (s.data.toList.take (k+1)))=O2 at d;have b:=qd GP;have e:=qqa (Lib.upperB s[k])
  by_cases hl:97<=s[k].toNat/\s[k].toNat<=122
  .rw[vb9 hl]at e
   have g:(97:Int)<=(s[k].toNat:Int):=ub
   go_wp2
   exact⟨⟨k+1,ub,rfl,by rw[q9 b],qd (qg B (uj.alloc ui _))⟩,by simp[intOf];omega⟩
  rw[vba hl]at e d
  by_cases g:97<=s[k].toNat
  .have f:(97:Int)<=(s[k].toNat:Int):=ub
   go_wp2
   exact⟨⟨k+1,ub,rfl,by rw[q9 b],qd (qg B (uj.alloc ui _))⟩,by simp[intOf];omega⟩
  have f:¬(97:Int)<=(s[k].toNat:Int):=ub
  go_wp2
  exact⟨⟨k+1,ub,rfl,by rw[q9 b],qd (qg B (uj.alloc ui _))⟩,by simp[intOf];omega⟩
 obtain rfl:k=s.size:=ub;rw[fo (by rw[qu];exact ui)]
 go_wp2
 go_ret;exact⟨rfl,q9 B⟩
def rtV(k a t:Int)(S:List UInt8)(n:Int):Ap:=Ai #[I J k,I J a,I J t,Y (BS S),I J n]
def kwT(k:Int):List UInt8:=
 if k=5 then[65,78,68] else if k=6 then[79,82] else if k=7 then[78,79,84] else if k=8 then[84,82,85,69] else if k=9 then[70,65,76,83,69]
 else if k=10 then[66,69,84,87,69,69,78] else if k=11 then[73,78] else if k=12 then[76,73,75,69] else if k=13 then[69,83,67,65,80,69] else if k=14 then[73,83]
 else if k=15 then[78,85,76,76] else if k=16 then[61] else if k=17 then[60,62] else if k=18 then[60] else if k=19 then[60,61] else if k=20 then[62] else if k=21 then[62,61]
 else if k=22 then[43] else if k=23 then[45] else if k=24 then[42] else if k=25 then[47] else if k=26 then[40] else if k=27 then[41] else if k=28 then[44] else[]
def rK(k:Int):Int:=if k<=4 then k else if k<=15 then 6 else 5
def rS(t:Tk):List UInt8:=if t.A=2\/t.A=4 then t.V else kwT t.A
def rTk(t:Tk)(a z:Nat):Ap:=if t.A=1 then rtV 1 a 0 [] 0 else rtV (rK t.A) a z (rS t) t.K
theorem qx8(h:kwK l≠2):kwT (kwK l)=l/\5<=kwK l/\kwK l<=15:=by
 by_cases e0:l=[65,78,68]
 .subst e0;exact⟨rfl,ue,ue⟩
 by_cases e1:l=[79,82]
 .subst e1;exact⟨rfl,ue,ue⟩
 by_cases e2:l=[78,79,84]
 .subst e2;exact⟨rfl,ue,ue⟩
 by_cases e3:l=[84,82,85,69]
 .subst e3;exact⟨rfl,ue,ue⟩
 by_cases e4:l=[70,65,76,83,69]
 .subst e4;exact⟨rfl,ue,ue⟩
 by_cases e5:l=[66,69,84,87,69,69,78]
 .subst e5;exact⟨rfl,ue,ue⟩
 by_cases e6:l=[73,78]
 .subst e6;exact⟨rfl,ue,ue⟩
 by_cases e7:l=[76,73,75,69]
 .subst e7;exact⟨rfl,ue,ue⟩
 by_cases e8:l=[69,83,67,65,80,69]
 .subst e8;exact⟨rfl,ue,ue⟩
 by_cases e9:l=[73,83]
 .subst e9;exact⟨rfl,ue,ue⟩
 by_cases EA:l=[78,85,76,76]
 .subst EA;exact⟨rfl,ue,ue⟩
 exact absurd (by unfold kwK;simp[e0,e1,e2,e3,e4,e5,e6,e7,e8,e9,EA]) h
theorem vh4(d:l=c::t)(b:yH c=true):qB l=qA kJ l:=by
 subst d;have:kJ c=true:=by unfold kJ vdm;unfold yH at b;simp[b]
 simp[qB,b,qA,this]
theorem vht{k:Int}{U:tu}(d:kwT k=U)(g:5<=k)(b:k<=15)(a z:Nat):rTk (qi k) a z=rtV 6 a z U 0:=by
 unfold rTk;rw[ak (show ¬(qi k).A=1 by show ¬k=1;omega)];have f:rK (qi k).A=6:=by show rK k=6;unfold rK;rw[ak ub,bo b]
 have e:rS (qi k)=U:=by
  unfold rS;rw[ak (show ¬((qi k).A=2\/(qi k).A=4) by show ¬(k=2\/k=4);omega)];exact d
 rw[f,e];rfl
theorem qqz(S:tu)(a z:Nat):rTk ⟨2,0,S⟩ a z=rtV 2 a z S 0:=by simp[rTk,rK,rS]
theorem qka(s:tq)(hs:s.size<=200)(p:Nat)(hp:p<s.size)(hb:yH s[p]=true)(w:Ao):
  ut 110 #[Y s,I J p] w (rTk (j9 (s.data.toList.drop p)) p (p+qB (s.data.toList.drop p))):=by
 have hl:=qu s
 have hd:s.data.toList.drop p=s[p]::s.data.toList.drop (p+1):=by
  rw[cj (by rw[qu];exact hp),qD s p hp]
 have fL:=vh4 hd hb;have T:=xh (s.data.toList.drop p);rw[dj,qu]at T;obtain⟨z,y⟩:=it (qB (s.data.toList.drop p));have A:(s.extract p (p+z)).data.toList=(s.data.toList.drop p).take z:=by rw[se];simp
 have hT:j9 (s.data.toList.drop p)=if yf ((s.data.toList.drop p).take z)=2 then⟨2,0,(s.data.toList.drop p).take z⟩ else qi (yf ((s.data.toList.drop p).take z)):=by rw[<-y];rfl
 rw[hT,y];rw[y]at fL T;obtain⟨W,Q⟩:=it (s.extract p (p+z));rw[Q]at A
 have C:W.size<=1000:=by
  have:=congrArg List.length A;rw[qu,cw,dj,qu]at this;omega
 rw[<-A];have CAP:=qd (vfi W C);obtain⟨U,S⟩:=it (Lib.toUpperA W.data.toList);have hK:yf W.data.toList=kwK U:=by unfold yf;rw[S]
 rw[S]at CAP;rw[hK];have KEY:Hid (∀w,ua 159 #[Y (BS U)] w λe w'=>e=Ak (Ah (kwK U != 2))/\w'=w):=qd λw=>qjy (BS U) w
 have K:=qd Q;have mC:Hid (z=qA kJ (s.data.toList.drop p)+0):=qd ub;obtain⟨x,o⟩:=it ((kwK U != 2));rw[o]at KEY;obtain⟨R,q⟩:=it (rTk (if kwK U=2 then⟨2,0,W.data.toList⟩ else qi (kwK U)) p (p+z));rw[q]
 have rH:Hid (x=true->R=rtV 6 p (p+z:Nat) U 0):=qd λe=>by
  have g:kwK U≠2:=by rw[e]at o;simpa using o
  rw[ak g]at q;obtain⟨q1,q2,q3⟩:=qx8 g;rw[<-q,vht q1 q2 q3]
 have cQ:Hid (x=false->R=rtV 2 p (p+z:Nat) W.data.toList 0):=qd λe=>by
  have g:kwK U=2:=by rw[e]at o;simpa using o
  rw[bo g]at q;rw[<-q,qqz]
 go_enter func110,ntmps110
 go_wp2
 go_loop [5] (λi=>∃k:Nat,p<=k/\k<=s.size/\i=I J k/\Hid (z+p=qA kJ (s.data.toList.drop k)+k)) (λi=>s.size - (intOf i).toNat)
 exact⟨p,ui,ub,rfl,qd (uu (q9 mC))⟩;obtain⟨k,dM,hk,rfl,B⟩:=hrel
 by_cases l8:∃d:k<s.size,kJ s[k]=true
 .obtain⟨d,b⟩:=l8
  have B9:=vH kJ s.data.toList k ub b;have L:Hid (z+p=qA kJ (s.data.toList.drop (k+1))+(k+1)):=qd (by rw[q9 B,B9];omega)
  cases I7:yH s[k] with
  | true=>
   have u:=qd I7
   go_wp2_with(first|(go_at_call 109;refine be (jf _ _) ?_;rintro w' rfl;rw[show qbj (s[k].toNat:Int)=true from q9 u]))
   go_round
   case rel=>exact⟨k+1,ub,ub,by go_num,L⟩
   simp[intOf];omega
  | false=>
   have u:=qd I7
   cases oN:jj s[k] with
   | true=>
    have H:=qd oN
    go_wp2_with(first|(go_at_call 109;refine be (jf _ _) ?_;rintro w' rfl;rw[show qbj (s[k].toNat:Int)=false from q9 u])|(go_at_call 157;refine be (yU _ _) ?_;rintro w' rfl;rw[show qbt (s[k].toNat:Int)=true from q9 H]))
    go_round
    case rel=>exact⟨k+1,ub,ub,by go_num,L⟩
    simp[intOf];omega
   | false=>
    have H:=qd oN
    have M:Hid ((s[k].toNat:Int)=46):=qd (by
     unfold kJ vdm at b;unfold yH at I7;unfold jj at oN;rw[I7,oN]at b
     simpa using b)
    go_wp2_with(first|(go_at_call 109;refine be (jf _ _) ?_;rintro w' rfl;rw[show qbj (s[k].toNat:Int)=false from q9 u])|(go_at_call 157;refine be (yU _ _) ?_;rintro w' rfl;rw[show qbt (s[k].toNat:Int)=false from q9 H];have r:=q9 M))
    go_round
    case rel=>exact⟨k+1,ub,ub,by go_num,L⟩
    simp[intOf];omega
 have P:z+p=k:=by
  by_cases d:k<s.size
  have b:kJ s[k]=false:=by cases b:kJ s[k] with|false=>rfl|true=>exact absurd ⟨d,b⟩ l8
  have:=vR kJ s.data.toList k ub b;rw[q9 B,this];omega;have:=vX kJ s.data.toList k ub;rw[q9 B,this];omega
 have j:Hid (∀d:k<s.size,yH s[k]=false/\jj s[k]=false/\¬(s[k].toNat:Int)=46):=qd λd=>by
  have b:kJ s[k]=false:=by cases b:kJ s[k] with|false=>rfl|true=>exact absurd ⟨d,b⟩ l8
  unfold kJ vdm at b;simp only[ii,bh]at b;exact⟨b.1.1,b.1.2,b.2⟩
 have X:Hid (s.extract p k=W):=qd (by rw[<-P,Nat.add_comm z p];exact q9 K);have Z:Hid (z+p=k):=qd P
 cases x with
 | true=>
  by_cases d:k<s.size
  all_goals
   go_wp2_with(first|(go_at_call 109;refine be (jf _ _) ?_;rintro w' rfl;rw[show qbj (s[k].toNat:Int)=false from(j d).1])|(go_at_call 157;refine be (yU _ _) ?_;rintro w' rfl;rw[show qbt (s[k].toNat:Int)=false from(j d).2.1];have r:=(j d).2.2)|(go_at_call 158;rw[q9 X];refine be (CAP _) λw1 m=>?_;obtain⟨f,hf⟩:=qk m;have B8:=m.size;have N:=qd m;have c0:w1.cell? ⟨w.1.size,0,O⟩=G (I J 0):=(f _ 0 ud).trans (by rw[bw _ _ _ uc];simp);have F:w1.cell? ⟨w.1.size,1,O⟩=G (I J 0):=(f _ 1 ud).trans (by rw[bw _ _ _ uc];simp);have E:w1.cell? ⟨w.1.size,2,O⟩=G (I J 0):=(f _ 2 ud).trans (by rw[bw _ _ _ uc];simp);have D:w1.cell? ⟨w.1.size,3,O⟩=G (Y ⟨#[]⟩):=(f _ 3 ud).trans (by rw[bw _ _ _ uc];simp);have c4:w1.cell? ⟨w.1.size,4,O⟩=G (I J 0):=(f _ 4 ud).trans (by rw[bw _ _ _ uc];simp))|(go_at_call 159;refine be (KEY _) ?_;rintro w2 rfl))
   refine bj (by simp[go_sem,c0,F,E,D,c4]<;>rfl) rfl ⟨?_, ?_⟩
   all_goals go_light
   .rw[q9 rH trivial,show((p+z:Nat):Int)=(k:Int) by have:=q9 Z;omega]
    rfl
   exact(((((((vf (vf N)).setCell uc _).setCell uc _).setCell uc _).setCell uc _).setCell uc _).setCell uc _).setCell uc _
 | false=>
  by_cases d:k<s.size
  all_goals
   go_wp2_with(first|(go_at_call 109;refine be (jf _ _) ?_;rintro w' rfl;rw[show qbj (s[k].toNat:Int)=false from(j d).1])|(go_at_call 157;refine be (yU _ _) ?_;rintro w' rfl;rw[show qbt (s[k].toNat:Int)=false from(j d).2.1];have r:=(j d).2.2)|(go_at_call 158;rw[q9 X];refine be (CAP _) λw1 m=>?_;obtain⟨f,hf⟩:=qk m;have N:=qd m;have c0:w1.cell? ⟨w.1.size,0,O⟩=G (I J 0):=(f _ 0 ud).trans (by rw[bw _ _ _ uc];simp);have F:w1.cell? ⟨w.1.size,1,O⟩=G (I J 0):=(f _ 1 ud).trans (by rw[bw _ _ _ uc];simp);have E:w1.cell? ⟨w.1.size,2,O⟩=G (I J 0):=(f _ 2 ud).trans (by rw[bw _ _ _ uc];simp);have D:w1.cell? ⟨w.1.size,3,O⟩=G (Y ⟨#[]⟩):=(f _ 3 ud).trans (by rw[bw _ _ _ uc];simp);have c4:w1.cell? ⟨w.1.size,4,O⟩=G (I J 0):=(f _ 4 ud).trans (by rw[bw _ _ _ uc];simp))|(go_at_call 159;refine be (KEY _) ?_;rintro w2 rfl))
   refine bj (by simp[go_sem,c0,F,E,D,c4]<;>rfl) rfl ⟨?_, ?_⟩
   all_goals go_light
   .rw[q9 cQ trivial,show((p+z:Nat):Int)=(k:Int) by have:=q9 Z;omega]
    rfl
   exact(((((vf (vf N)).setCell uc _).setCell uc _).setCell uc _).setCell uc _).setCell uc _
theorem vmc(v:Int)(a z:Nat):rTk ⟨3,v,[]⟩ a z=rtV 3 a z [] v:=by simp[rTk,rK,rS,kwT]
theorem qp1(a z:Nat):rTk (qi 1) a z=rtV 1 a 0 [] 0:=by simp[rTk,qi]
theorem qsd(l:tu)(c:UInt8):∀k,vK k (l++[c])=vK k l * 10+(c.toNat - 48):=by
 induction l with
 | nil=>intro k;rfl
 | cons d t ih=>
  intro k;show vK (k * 10+(d.toNat - 48)) (t++[c])=vK (k * 10+(d.toNat - 48)) t * 10+(c.toNat - 48);rw[ih]
theorem qmr{p:Nat}(d:p<=k)(b:k<s.size):vK 0 ((s.data.toList.drop p).take (k+1 - p))=vK 0 ((s.data.toList.drop p).take (k - p)) * 10+(s[k].toNat - 48):=by
 have e:(s.data.toList.drop p).take (k+1 - p)=(s.data.toList.drop p).take (k - p)++[s[k]]:=by
  rw[show k+1 - p=(k - p)+1 by omega,dn,io,show p+(k - p)=k by omega,ag (by rw[qu];exact b),qD s k b];rfl
 rw[e,qsd]
def vbw(s:ByteArray)(p k:Nat)(n:Nat)(bad:Bool):Prop:=n<=9223372036854775807/\if bad=true then 9223372036854775807<vK 0 ((s.data.toList.drop p).take (k - p)) else n=vK 0 ((s.data.toList.drop p).take (k - p))
theorem qp9(s:tq)(hs:s.size<=200)(p:Nat)(hp:p<s.size)(w:Ao):
  ut 187 #[Y s,I J p] w (rTk (xN (s.data.toList.drop p)) p (p+qA jj (s.data.toList.drop p))):=by
 have hl:=qu s;obtain⟨z,q⟩:=it (qA jj (s.data.toList.drop p));obtain⟨v,hv⟩:=it (vK 0 ((s.data.toList.drop p).take z));obtain⟨R,x⟩:=it (rTk (xN (s.data.toList.drop p)) p (p+z))
 have A:Hid (v<=9223372036854775807->R=rtV 3 p (p+z:Nat) [] v):=qd λh=>by
  rw[<-x];unfold xN;rw[q,hv,bo ub,vmc]
 have E:Hid (¬v<=9223372036854775807->R=rtV 1 p 0 [] 0):=qd λh=>by
  rw[<-x];unfold xN;rw[q,hv,ak ub,qp1]
 have C:=qd q;have K:=qd hv;rw[q,x];clear x q hv;go_enter func187,ntmps187
 go_wp2
 go_loop [5,6,7] (λi m b=>∃(k n:Nat) (bad:Bool),p<=k/\k<=s.size/\i=I J k/\m=I .u64 n/\b=Ah bad/\Hid (z+p=qA jj (s.data.toList.drop k)+k/\vbw s p k n bad)) (λi _ _=>s.size - (intOf i).toNat)
 exact⟨p,0,false,ui,ub,rfl,rfl,rfl,qd ⟨uu (q9 C),bt _,by rw[ld];rfl⟩⟩;obtain⟨k,m,bad,T,hk,rfl,rfl,rfl,H⟩:=hrel
 by_cases l8:∃f:k<s.size,jj s[k]=true
 .obtain⟨f,j⟩:=l8
  have o:=vH jj s.data.toList k ub j;have hd:=qmr T f;have B:48<=s[k].toNat/\s[k].toNat<=57:=by simp[jj,qbt]at j;omega
  have m9:(48:Int)<=(s[k].toNat:Int):=ub;have C9:(s[k].toNat:Int)<=57:=ub;obtain⟨g,D,e⟩:=q9 H;obtain⟨d,y⟩:=uk (s[k].toNat - 48:Nat);rw[<-y]at hd;have P:d<=9:=ub;have G:(s[k].toNat:Int) - 48=(d:Int):=ub
  cases bad with
  | true=>
   have r:Hid (z+p=qA jj (s.data.toList.drop (k+1))+(k+1)/\vbw s p (k+1) m true):=qd ⟨by rw[g,o];omega,D,by rw[bo rfl,hd];rw[bo rfl]at e;omega⟩;clear o hd g e H j G y B
   go_wp2
   go_round
   case rel=>exact⟨k+1,m,true,ub,ub,by go_num,rfl,rfl,r⟩
   simp[intOf];omega
  | false=>
   rw[ak ue]at e
   by_cases hb:m * 10+d<=9223372036854775807
   .have r:Hid (z+p=qA jj (s.data.toList.drop (k+1))+(k+1)/\vbw s p (k+1) (m * 10+d) false):=qd ⟨by rw[g,o];omega,hb,by rw[ak ue,hd,<-e]⟩
    have F:¬(9223372036854775807 - ((s[k].toNat:Int) - 48)) / 10<(m:Int):=ub;have Q:decide ((9223372036854775807 - ((s[k].toNat:Int) - 48)) / 10<(m:Int))=false:=db F;have O:(m:Int) * 10+((s[k].toNat:Int) - 48)<=9223372036854775807:=ub;have HQ:Hid ((m:Int) * 10+((s[k].toNat:Int) - 48)=((m * 10+d:Nat):Int)):=qd ub;clear o hd g e H j G B P y hb
    go_wp2
    go_round
    case rel=>exact⟨k+1,m * 10+d,false,ub,ub,by go_num,by rw[q9 HQ],rfl,r⟩
    simp[intOf];omega
   have r:Hid (z+p=qA jj (s.data.toList.drop (k+1))+(k+1)/\vbw s p (k+1) m true):=qd ⟨by rw[g,o];omega,D,by rw[bo rfl,hd,<-e];omega⟩;have F:(9223372036854775807 - ((s[k].toNat:Int) - 48)) / 10<(m:Int):=ub;have Q:decide ((9223372036854775807 - ((s[k].toNat:Int) - 48)) / 10<(m:Int))=true:=di F;clear o hd g e H j G y B P hb
   go_wp2
   go_round
   case rel=>exact⟨k+1,m,true,ub,ub,by go_num,rfl,rfl,r⟩
   simp[intOf];omega
 obtain⟨g,D,e⟩:=q9 H
 have N:z+p=k:=by
  by_cases f:k<s.size
  have j:jj s[k]=false:=by cases j:jj s[k] with|false=>rfl|true=>exact absurd ⟨f,j⟩ l8
  have:=vR jj s.data.toList k ub j;rw[g,this];omega;have:=vX jj s.data.toList k ub;rw[g,this];omega
 rw[show k - p=z by omega,q9 K]at e;have L:∀f:k<s.size,¬(48<=s[k].toNat/\s[k].toNat<=57):=λf h=>l8 ⟨f,by simp[jj,qbt];omega⟩
 have Z:Hid ((p+z:Nat)=k):=qd ub
 have M:k=s.size\/∃f:k<s.size,(¬(48:Int)<=(s[k].toNat:Int))\/((48:Int)<=(s[k].toNat:Int)/\¬(s[k].toNat:Int)<=57):=by
  by_cases f:k<s.size
  right
  refine⟨f, ?_⟩;have:=L f;omega
  left;omega
 have bZ:(m:Int)<=9223372036854775807:=ub
 cases bad with
 | true=>
  rw[bo rfl]at e;have u:=q9 E ub;clear L l8 H g e N A E C K;rcases M with rfl|⟨f,S|⟨U,X⟩⟩
  all_goals
   go_wp2
   refine tw ⟨?_, ?_⟩
   all_goals go_light
   .first|rfl|(rw[u];rfl)
   repeat' (first|exact qK _ _ _|refine Below.setCell ?_ uc _)
 | false=>
  rw[ak ue]at e;have u:=q9 A ub;rw[q9 Z,<-e]at u;clear L l8 H g e N A E C K;rcases M with rfl|⟨f,S|⟨U,X⟩⟩
  all_goals
   go_wp2
   refine tw ⟨?_, ?_⟩
   all_goals go_light
   .first|rfl|(rw[u];rfl)
   repeat' (first|exact qK _ _ _|refine Below.setCell ?_ uc _)
theorem vfh(S:tu)(a z:Nat):rTk ⟨4,0,S⟩ a z=rtV 4 a z S 0:=by simp[rTk,rK,rS]
theorem qwg{i:Nat}(h:i<s.size):s.extract i (i+1)=BS [s[i]]:=by
 have e:(s.extract i (i+1)).data.toList=[s[i]]:=by
  rw[se]
  have:(s.data.toList.drop i).take (i+1 - i)=[s[i]]:=by
   rw[Nat.add_sub_cancel_left,cj (by rw[qu];exact h),qD s i h];rfl
  simpa using this
 rw[<-vig (s.extract i (i+1)),e]
theorem vff(h:vm (l.drop 1)=G (xs,k))(p:Nat):rTk (vP l) p (p+yi l)=rtV 4 p (p+(k+1):Nat) xs 0:=by
 obtain⟨d,b⟩:=kx h;rw[d,b,vfh]
theorem vfe(h:vm (l.drop 1)=O)(p:Nat):rTk (vP l) p (p+yi l)=rtV 1 p 0 [] 0:=by
 rw[(qdn h).1,qp1]
theorem qzt(s:tq)(M:s.size<=200)(p:Nat)(hp:p<s.size)(w:Ao):
  ut 188 #[Y s,I J p] w (rTk (vP (s.data.toList.drop p)) p (p+yi (s.data.toList.drop p))):=by
 have N:=qu s;obtain⟨l,m⟩:=it (s.data.toList.drop p);have z:l.length=s.size - p:=by rw[<-m,dj,qu]
 have u:Hid (∀i (h:i<s.size),p<=i->∃h':i - p<l.length,l[i - p]=s[i]):=qd (by
  intro i h B;refine⟨ub, ?_⟩
  have e:l[i - p]?=G s[i]:=by
   rw[<-m,io,show p+(i - p)=i by omega,ag (by rw[qu];exact h),qD s i h]
  exact(aj.1 e).2)
 obtain⟨R,j⟩:=it (rTk (vP l) p (p+yi l));have b:Hid (∀xs k,vm (l.drop 1)=G (xs,k)->R=rtV 4 p (p+(k+1):Nat) xs 0):=qd λxs k h=>by rw[<-j,vff h]
 have f:Hid (vm (l.drop 1)=O->R=rtV 1 p 0 [] 0):=qd λh=>by rw[<-j,vfe h]
 rw[m,j];have x:=qd z;clear j m z;go_enter func188,ntmps188
 go_wp2
 go_loop [5,6] (λo iv=>∃(i:Nat) (xs:tu),p+1<=i/\i<=s.size/\o=Y (BS xs)/\iv=I J i/\xs.length<=i/\Hid (QAt l (i - p) xs)) (λ_ iv=>s.size - (intOf iv).toNat)
 case atStart=>exact⟨p+1,[],ui,ub,rfl,by go_num,bt _,qd (by rw[Nat.add_sub_cancel_left];exact QAt.start l)⟩
 obtain⟨i,xs,B,S,rfl,rfl,L,Q⟩:=hrel
 by_cases A1:i<s.size
 .obtain⟨hq,cT⟩:=q9 u i A1 ub
  by_cases hc:s[i]=39
  .have C:(s[i].toNat:Int)=39:=by rw[hc];rfl
   by_cases hn:∃h:i+1<s.size,s[i+1]=39
   .obtain⟨h1,h2⟩:=hn
    obtain⟨q,g⟩:=q9 u (i+1) h1 ub;have D:(s[i+1].toNat:Int)=39:=by rw[h2];rfl
    have r:Hid (QAt l (i+2 - p) (xs++[39])):=qd (by
     have:=(q9 Q).two ub ub (by rw[cT];exact hc) (by
      have e:l[i - p+1]?=G s[i+1]:=by rw[show i - p+1=i+1 - p by omega,ag q,g]
      rw[(aj.1 e).2];exact h2)
     rwa [show i - p+2=i+2 - p by omega]at this)
    have H:∀w:Ao,(Op.stringOp .add (BS xs) ⟨#[39]⟩).run prog w=.ok (Y (BS (xs++[39]))) w:=λw=>by
     rw[<-jP];exact run_string_add_sum (P:=prog) (w:=w) _ _ (by rw[qJ];show xs.length+1<=_;omega)
    have K:(i:Int)+1<(s.size:Int):=ub;have U:¬(i:Int)+1=(s.size:Int):=ub;clear Q cT hq g q b f hc h2
    go_wp2
    go_round
    case rel=>exact⟨i+2,xs++[39],ub,ub,rfl,by go_num,ud,r⟩
    simp[intOf];omega
   have A:=(q9 Q).close ub hq (by rw[cT];exact hc) (λh e=>hn ⟨uu (q9 x),by
    obtain⟨q,g⟩:=q9 u (i+1) (uu (q9 x)) ub;rw[<-g];have E:l[i - p+1]?=G l[i+1 - p]:=by rw[show i - p+1=i+1 - p by omega,ag q]
    rw[<-(aj.1 E).2];exact e⟩)
   have d:=q9 b _ _ A;rw[show p+(i - p+1)=i+1 by omega]at d
   have F:i+1=s.size\/∃h:i+1<s.size,¬(s[i+1].toNat:Int)=39:=by
    by_cases h:i+1<s.size
    .right
     refine⟨h,λe=>hn ⟨h, ?_⟩⟩;apply sk.1;show s[i+1].toNat=39;omega
    left;omega
   clear A Q cT hq b f hn hc;rcases F with y|⟨h,y⟩
   .have hw':(i:Int)+1=(s.size:Int):=ub
    go_wp2
    refine tw ⟨?_, ?_⟩
    all_goals go_light
    .first|rfl|(rw[d];rfl)
    repeat' (first|exact(uj).alloc ui _|refine Below.setCell ?_ uc _)
   have hw':¬(i:Int)+1=(s.size:Int):=ub;have T:((s[i+1].toNat:Int) != 39)=true:=by simpa using y
   have K:(i:Int)+1<(s.size:Int):=ub
   go_wp2
   refine tw ⟨?_, ?_⟩
   all_goals go_light
   .first|rfl|(rw[d];rfl)
   repeat' (first|exact(uj).alloc ui _|refine Below.setCell ?_ uc _)
  have C:¬(s[i].toNat:Int)=39:=λe=>hc (by apply sk.1;show s[i].toNat=39;omega)
  have r:Hid (QAt l (i+1 - p) (xs++[s[i]])):=qd (by
   have:=(q9 Q).one ub hq (by rw[cT];exact hc)
   rwa [cT,show i - p+1=i+1 - p by omega]at this)
  have H:∀w:Ao,(Op.stringOp .add (BS xs) (s.extract i (i+1))).run prog w=.ok (Y (BS (xs++[s[i]]))) w:=λw=>by
   rw[qwg A1,<-jP];exact run_string_add_sum (P:=prog) (w:=w) _ _ (by rw[qJ,qJ];show xs.length+1<=_;omega)
  clear Q cT hq b f hc
  go_wp2
  go_round
  case rel=>exact⟨i+1,xs++[s[i]],ub,ub,rfl,by go_num,ud,r⟩
  simp[intOf];omega
 obtain rfl:i=s.size:=ub;have d:=q9 f (Q.over (uu (q9 x)));clear Q b f
 go_wp2
 refine tw ⟨?_, ?_⟩
 all_goals go_light
 .first|rfl|(rw[d];rfl)
 repeat' (first|exact(uj).alloc ui _|refine Below.setCell ?_ uc _)
end Go.Proofs.YtdmmmgodfceilaaGreatDoor
