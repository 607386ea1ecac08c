/- The document's answer -/
import Derived.Test.YtdmmmgodfceilaaGreatDoorM26
set_option maxHeartbeats 32000000
namespace Go.Proofs.YtdmmmgodfceilaaGreatDoor
open Go.RowKit Go.Proofs.Tryz
open Go renaming Value->Ap,World->Ao
open Go.Ending renaming returned->Ak
open Go.IntKind renaming i64->J
open Go.Value renaming agg->Ai,bool->Ah,int->I,pointer->Ag,string->Y,tuple->Aj
open Option renaming none->O,some->G
open Or renaming inl->Am,inr->An
variable{S s:tq}{a at' er k n op z:Int}{rb:Nat}{nv:Ap}{w:Ao}
theorem vfg(t:Tk)(a z:Nat):∃k a' z' S n,rTk t a z=Ai #[I J k,I J a',I J z',Y S,I J n]:=by
 unfold rTk
 split<;>exact⟨_,_,_,_,_,rfl⟩
theorem vmb(a z:Nat):rTk (qi 0) a z=Ai #[I J 0,I J a,I J z,Y ⟨#[]⟩,I J 0]:=by
 simp[rTk,rK,rS,kwT,qi,rtV];rfl
theorem vdf(s:tq)(f:s.size<=200)(k:Nat)(c:k<s.size):∃(K:Nat) (b d q:Bool),qbj (s[k].toNat:Int)=b/\qbt (s[k].toNat:Int)=d/\((s[k].toNat:Int)==39)=q/\(∀w,ua K #[Y s,I J k] w λe w'=>e=Ak (rTk (vh (s.data.toList.drop k)) k (k+xq (s.data.toList.drop k)))/\Xb w w') /\
  (K=110/\b=true/\d=false\/K=187/\b=false/\d=true\/K=188/\b=false/\d=false/\q=true\/K=189/\b=false/\d=false/\q=false):=by
 have hd:s.data.toList.drop k=s[k]::s.data.toList.drop (k+1):=by
  rw[cj (by rw[qu];exact c),qD s k c]
 have h:vh (s.data.toList.drop k)=if yH s[k] then j9 (s.data.toList.drop k) else if jj s[k] then xN (s.data.toList.drop k) else if s[k]==39 then vP (s.data.toList.drop k) else qi (xG (s.data.toList.drop k)):=by rw[hd];rfl
 have g:xq (s.data.toList.drop k)=if yH s[k] then qB (s.data.toList.drop k) else if jj s[k] then qA jj (s.data.toList.drop k) else if s[k]==39 then yi (s.data.toList.drop k) else yJ (s.data.toList.drop k):=by rw[hd];rfl
 rw[h,g]
 cases hb:yH s[k] with
 | true=>exact⟨_,_,_,_,hb,(mr.2 λe=>by unfold qbt at e;unfold yH qbj at hb;simp at hb e;omega),rfl,qka s f k c hb,Am ⟨rfl,rfl,rfl⟩⟩
 | false=>
  cases hg:jj s[k] with
  | true=>exact⟨_,_,_,_,hb,hg,rfl,qp9 s f k c,An (Am ⟨rfl,rfl,rfl⟩)⟩
  | false=>
   by_cases h39:s[k]=39
   .rw[show(s[k]==39)=true by rw[h39];rfl]
    exact⟨_,_,_,_,hb,hg,by rw[h39];decide,qzt s f k c,An (An (Am ⟨rfl,rfl,rfl,rfl⟩))⟩
   rw[show(s[k]==39)=false by simpa using h39];exact⟨_,_,_,_,hb,hg,bh.2 λe=>h39 (sk.1 (by show s[k].toNat=39;omega)),qzq s f k c,An (An (An ⟨rfl,rfl,rfl,rfl⟩))⟩
theorem qzd(s:tq)(D:s.size<=200)(p:Nat)(hp:p<=s.size)(w:Ao):
  ut 129 #[Y s,I J p] w (rTk (qQ s.data.toList p) (qS s.data.toList p) (vk s.data.toList p)):=by
 have H:=qu s;obtain⟨z,j⟩:=it (qS s.data.toList p);have y:z=qA spU (s.data.toList.drop p)+p:=by rw[<-j];unfold qS;omega
 obtain⟨R,l⟩:=it (rTk (qQ s.data.toList p) (qS s.data.toList p) (vk s.data.toList p))
 have o:Hid (z=s.size->R=Ai #[I J 0,I J s.size,I J s.size,Y ⟨#[]⟩,I J 0]):=qd λh=>by
  rw[<-l];unfold qQ vk;rw[j,ak ub,ak ub,H,h];exact vmb _ _
 have m:Hid (z<s.size->R=rTk (vh (s.data.toList.drop z)) z (z+xq (s.data.toList.drop z))):=qd λh=>by
  rw[<-l];unfold qQ vk;rw[j,bo ub,bo ub]
 rw[l];have u:=qd y;clear l j y;go_enter func129,ntmps129
 go_wp2
 go_loop [1] (λi=>∃k:Nat,p<=k/\k<=s.size/\i=I J k/\Hid (z=qA spU (s.data.toList.drop k)+k)) (λi=>s.size - (intOf i).toNat)
 exact⟨p,ui,hp,rfl,u⟩;obtain⟨k,dM,hk,rfl,f⟩:=hrel
 by_cases l8:∃A1:k<s.size,spU s[k]=true
 .obtain⟨A1,c⟩:=l8
  have A:=vH spU s.data.toList k ub c;have P:Hid (z=qA spU (s.data.toList.drop (k+1))+(k+1)):=qd (by rw[q9 f,A];omega)
  have e:(s[k].toNat:Int)=32\/(s[k].toNat:Int)=9\/(s[k].toNat:Int)=10:=by
   unfold spU spB at c;simpa [or_assoc]using c
  clear A f c o m;rcases e with e|e|e
  all_goals
   go_wp2
   go_round
   case rel=>exact⟨k+1,ub,ub,by go_num,P⟩
   simp[intOf];omega
 have C:z=k:=by
  by_cases A1:k<s.size
  have c:spU s[k]=false:=by cases c:spU s[k] with|false=>rfl|true=>exact absurd ⟨A1,c⟩ l8
  have:=vR spU s.data.toList k ub c;rw[q9 f,this];omega;have:=vX spU s.data.toList k ub;rw[q9 f,this];omega
 by_cases A1:k<s.size
 .have g:=q9 m ub
  rw[C]at g;have c:spU s[k]=false:=by cases c:spU s[k] with|false=>rfl|true=>exact absurd ⟨A1,c⟩ l8
  have G:((s[k].toNat:Int)==32)=false/\((s[k].toNat:Int)==9)=false/\((s[k].toNat:Int)==10)=false:=by
   unfold spU spB at c;simpa [and_assoc]using c
  obtain⟨n1,n2,n3⟩:=G;have F:((k:Int)==(s.size:Int))=false:=bh.2 ub;obtain⟨q1,Z,X,W,U,hq⟩:=vfg (vh (s.data.toList.drop k)) k (k+xq (s.data.toList.drop k));obtain⟨K,b,d,q,v,hd,x,r,e⟩:=vdf s D k A1;rw[hq]at g r;have N:=qd v;have M:=qd hd;have Q:=qd x;have r:=qd r;clear v hd x hq c l8 f o m u;rcases e with⟨rfl,rfl,rfl⟩|⟨rfl,rfl,rfl⟩|⟨rfl,rfl,rfl,rfl⟩|⟨rfl,rfl,rfl,rfl⟩
  all_goals
   go_wp2_with(first|(go_at_call 109;refine be (jf _ _) ?_;rintro w' rfl;rw[q9 N])|(go_at_call 157;refine be (yU _ _) ?_;rintro w' rfl;rw[q9 M];have E:=q9 Q)|((first|go_at_call 110|go_at_call 187|go_at_call 188|go_at_call 189);refine be (r _) λB t=>?_;obtain⟨e,hf⟩:=qk t;have B8:=t.size;have T:=qd t;clear t;have c0:∀i,B.cell? ⟨w.1.size,i,O⟩=(#[I J 0,I J 0,I J 0,Y ⟨#[]⟩,I J 0]:Array Ap)[i]?:=(λi=>(e _ i uc).trans uc)))
   refine bj (by simp[go_sem,c0]<;>rfl) rfl ⟨?_, ?_⟩
   all_goals go_light
   .first|rfl|(rw[g])
   repeat' (first|exact vf T|refine Below.setCell ?_ uc _)
 have L:k=s.size:=ub;have g:=q9 o ub;clear f l8 o m u;subst L
 go_wp2
 refine tw ⟨?_, ?_⟩
 all_goals go_light
 .first|rfl|(rw[g])
 repeat' (first|exact(uj).alloc ui _|refine Below.setCell ?_ uc _)
structure TrC(w:Ao)(rb:Nat)(nv:Ap)(s:ByteArray)(k a z:Int)(S:ByteArray)(n op er at':Int):Prop where
 lt:rb<w.1.size
 c0:w.cell? ⟨rb,0,O⟩=G nv
 c1:w.cell? ⟨rb,1,O⟩=G (Y s)
 c2:w.cell? ⟨rb,2,O⟩=G (I J k)
 c3:w.cell? ⟨rb,3,O⟩=G (I J a)
 c4:w.cell? ⟨rb,4,O⟩=G (I J z)
 c5:w.cell? ⟨rb,5,O⟩=G (Y S)
 c6:w.cell? ⟨rb,6,O⟩=G (I J n)
 c7:w.cell? ⟨rb,7,O⟩=G (I J op)
 c8:w.cell? ⟨rb,8,O⟩=G (I J er)
 c9:w.cell? ⟨rb,9,O⟩=G (I J at')
 fz:∀j,w.frozen? ⟨rb,j,O⟩=false
theorem gi(h:TrC w rb nv s k a z S n op er at')(kind:Int)(X:tq):
  ua 131 #[Ag (G ⟨rb,0,O⟩),I J kind,Y X] w λe w'=>e=Ak (Ah (k==kind&&(S.toList==X.toList)))/\w'=w:=by
 obtain⟨lt,c0,g,f,d,c4,c,b,c7,c8,c9,fz⟩:=h;cases hk:(k==kind)
 all_goals
  go_enter func131,ntmps131
  go_wp2
  all_goals(go_ret;exact⟨rfl,rfl⟩)
theorem kA(h:TrC w rb nv s k a z S n op 0 at')(er b:Int):
  ua 96 #[Ag (G ⟨rb,0,O⟩),I J er,I J b] w λe w'=>e=Ak (Aj #[])/\TrC w' rb nv s 1 a 0 ⟨#[]⟩ 0 op er b/\Kept rb w w':=by
 obtain⟨lt,c0,i,g,f,c4,d,c,c7,c8,c9,fz⟩:=h;go_enter func96,ntmps96
 go_wp2
 go_end0
 refine⟨rfl,⟨by simpa using lt, ?_, ?_, ?_, ?_, ?_, ?_, ?_, ?_, ?_, ?_,λj=>?_⟩,(((((((Kept.refl rb w).setCell 8 _).setCell 9 _).setCell 2 _).setCell 3 _).setCell 4 _).setCell 5 _).setCell 6 _⟩
 all_goals simp[go_sem,c0,i,g,f,c4,d,c,c7,c8,c9,fz]
theorem qdt(h:TrC w rb nv s k a z S n op er at')(c:er≠0)(b d:Int):
  ua 96 #[Ag (G ⟨rb,0,O⟩),I J b,I J d] w λe w'=>e=Ak (Aj #[])/\TrC w' rb nv s 1 a 0 ⟨#[]⟩ 0 op er at'/\Kept rb w w':=by
 obtain⟨lt,c0,o,m,l,c4,i,g,c7,c8,c9,fz⟩:=h;have f:(er==0)=false:=bh.2 c;clear c;go_enter func96,ntmps96
 go_wp2
 go_end0
 refine⟨rfl,⟨by simpa using lt, ?_, ?_, ?_, ?_, ?_, ?_, ?_, ?_, ?_, ?_,λj=>?_⟩,(((((Kept.refl rb w).setCell 2 _).setCell 3 _).setCell 4 _).setCell 5 _).setCell 6 _⟩
 all_goals simp[go_sem,c0,o,m,l,c4,i,g,c7,c8,c9,fz]
end Go.Proofs.YtdmmmgodfceilaaGreatDoor
