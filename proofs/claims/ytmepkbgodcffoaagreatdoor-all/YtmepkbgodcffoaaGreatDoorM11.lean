/- digits -/
import Derived.Test.YtmepkbgodcffoaaGreatDoorM00
import Derived.Laws.Concat
set_option maxHeartbeats 32000000
namespace Go.Proofs.YtmepkbgodcffoaaGreatDoor
open Go.RowKit Go.Proofs.Tryz
open _root_.List renaming length->A
open Go.World renaming setCell->B
open Bool renaming false->uh,true->ui
open Go.Addr renaming mk->D
open _root_.Array renaming size->Z,toList->T
open Go renaming Value->Ap,World->Ao
open Go.Ending renaming returned->Ak
open Go.IntKind renaming i64->J
open Go.Obj renaming cells->Al
open Go.Value renaming agg->Ai,bool->Ah,int->I,pointer->Ag,slice->C,string->Y,tuple->Aj
open Option renaming none->O,some->G
open Or renaming inl->Am,inr->An
variable{S s:uj}{a at' er k n op z:Int}{U l t:uk}{p rb:Nat}{c:UInt8}{nv:Ap}{w:Ao}
def dig(n:Nat):UInt8:=UInt8.ofNat (48+n % 10)
def qep(n:Nat):List UInt8:=if n<10 then[dig n] else qep (n / 10)++[dig n]
termination_by n
theorem pM{n:Nat}(h:n<10):qep n=[dig n]:=by rw[qep,bs h]
theorem qb0{n:Nat}(h:¬n<10):qep n=qep (n / 10)++[dig n]:=by rw[qep,ak h]
theorem qqx(n:Nat):(dig n).toNat=48+n % 10:=by
 unfold dig;rw[mx];omega
theorem zh(a b:uk):BS a++BS b=BS (a++b):=by
 constructor<;>grind
theorem jt(c:Int)(w:Ao):uo 107 #[I .u8 c] w λe w'=>e=Ak (Ah (qd0 c))/\w'=w:=by
 unfold qd0;go_enter func107,ntmps107
 go_wp2
 all_goals(go_ret;exact⟨vd uv,rfl⟩)
theorem kH(c:Int)(w:Ao):uo 155 #[I .u8 c] w λe w'=>e=Ak (Ah (qdc c))/\w'=w:=by
 unfold qdc;go_enter func155,ntmps155
 go_wp2
 all_goals(go_ret;exact⟨vd uv,rfl⟩)
theorem qnt(s:uj)(w:Ao):uo 157 #[Y s] w λe w'=>e=Ak (Ah (kwK (T s.data) != 2))/\w'=w:=by
 go_enter func157,ntmps157
 go_wp2
 all_goals
  go_ret;refine⟨?_,rfl⟩;simp only[io]at *
  first
  | (rename_i f d;rw[f]at d;cases d;done)
  | (have b:(kwK (T s.data) != 2)=ui:=(by simp only[kwK, *,if_true,dk,if_false];rfl);rw[b];rfl)
  | (have b:(kwK (T s.data) != 2)=uh:=(by simp only[kwK, *,dk,if_false];rfl);rw[b];rfl)
theorem qts(c:UInt8)(w:Ao):(convert 65 9 (C (G ⟨Z w.1,0,O⟩) 1 1)).run prog (w.alloc (Al #[I .u8 (c.toNat:Int)] 5))=.ok (Y (BS [c])) (w.alloc (Al #[I .u8 (c.toNat:Int)] 5)):=by
 refine run_convert_bytes_back (P:=prog) _ 65 9 5 ⟨Z w.1,0,O⟩ 1 [c] underlying65 underlying5 underlying9 ?_;intro j b;obtain rfl:j=0:=by simp at b;omega
 show(w.alloc _).cell? ⟨Z w.1,0,O⟩=G (I .u8 (c.toNat:Int))
 grind[World.cell?_alloc_at]
theorem vg5(h:97<=c.toNat/\c.toNat<=122):((Lib.upperB c).toNat:Int)=(c.toNat:Int) - 32:=by
 have e:Lib.isLowerB c=ui:=by
  unfold Lib.isLowerB;simp only[dn,fw,UInt8.le_iff_toNat_le];exact h
 unfold Lib.upperB;rw[bs e,UInt8.toNat_sub_of_le _ _ (by rw[UInt8.le_iff_toNat_le];show 32<=c.toNat;omega)]
 grind
theorem vg6(h:¬(97<=c.toNat/\c.toNat<=122)):Lib.upperB c=c:=by
 have e:¬Lib.isLowerB c=ui:=by
  unfold Lib.isLowerB;simp only[dn,fw,UInt8.le_iff_toNat_le];exact h
 unfold Lib.upperB<;>grind
theorem qys{k:Nat}(h:k<s.size):Lib.toUpperA (s.data.toList.take (k+1))=Lib.toUpperA (s.data.toList.take k)++[Lib.upperB s[k]]:=by
 unfold Lib.toUpperA
 grind[List.take_add_one,qy,qF]
theorem vkn(s:uj)(q:s.size<=1000)(w:Ao):lz 156 #[Y s] w (Y (BS (Lib.toUpperA (T s.data)))):=by
 have m:=qd (Below.refl (Z w.1) w);go_enter func156,ntmps156
 go_wp2
 go_loopw [3,4] (λo i wr=>∃k:Nat,k<=s.size/\i=I J k/\o=Y (BS (Lib.toUpperA (s.data.toList.take k)))/\Hid (Xb w wr)) (λ_ i _=>s.size - (intOf i).toNat)
 exact⟨0,bt _,rfl,rfl,m⟩;obtain⟨k,r,rfl,rfl,b⟩:=hrel
 by_cases A1:k<s.size
 .have BO:=qys A1
  have e:∀w:Ao,(Op.stringOp .add (BS (Lib.toUpperA (s.data.toList.take k))) (BS [Lib.upperB s[k]])).run prog w=.ok (Y (BS (Lib.toUpperA (s.data.toList.take (k+1))))) w:=λw=>by
   rw[BO,<-zh];exact run_string_add_sum (P:=prog) (w:=w) _ _ (by rw[qI,qI];simp[Lib.toUpperA];omega)
  generalize BS (Lib.toUpperA (s.data.toList.take k))=O1 at e |-;generalize KU:BS (Lib.toUpperA (s.data.toList.take (k+1)))=O2 at e;have d:=qd KU;have f:=qts (Lib.upperB s[k])
  by_cases hl:97<=s[k].toNat/\s[k].toNat<=122
  .rw[vg5 hl]at f
   have j:(97:Int)<=(s[k].toNat:Int):=uq
   go_wp2
   exact⟨⟨k+1,uq,rfl,by rw[q9 d],qd (qg b (uy.alloc ux _))⟩,by simp[intOf];omega⟩
  rw[vg6 hl]at f e
  by_cases j:97<=s[k].toNat
  .have g:(97:Int)<=(s[k].toNat:Int):=uq
   go_wp2
   exact⟨⟨k+1,uq,rfl,by rw[q9 d],qd (qg b (uy.alloc ux _))⟩,by simp[intOf];omega⟩
  have g:¬(97:Int)<=(s[k].toNat:Int):=uq
  go_wp2
  exact⟨⟨k+1,uq,rfl,by rw[q9 d],qd (qg b (uy.alloc ux _))⟩,by simp[intOf];omega⟩
 obtain rfl:k=s.size:=uq;rw[fo (by rw[qy];exact ux)]
 go_wp2
 go_ret;exact⟨rfl,q9 b⟩
def rtV(k a t:Int)(S:List UInt8)(n:Int):Ap:=Ai #[I J k,I J a,I J t,Y (BS S),I J n]
def kwT(k:Int):List UInt8:=
 if k=5 then[65,78,68] else if k=6 then[79,82] else if k=7 then[78,79,84] else if k=8 then[84,82,85,69] else if k=9 then[70,65,76,83,69]
 else if k=10 then[66,69,84,87,69,69,78] else if k=11 then[73,78] else if k=12 then[76,73,75,69] else if k=13 then[69,83,67,65,80,69] else if k=14 then[73,83]
 else if k=15 then[78,85,76,76] else if k=16 then[61] else if k=17 then[60,62] else if k=18 then[60] else if k=19 then[60,61] else if k=20 then[62] else if k=21 then[62,61]
 else if k=22 then[43] else if k=23 then[45] else if k=24 then[42] else if k=25 then[47] else if k=26 then[40] else if k=27 then[41] else if k=28 then[44] else[]
def rK(k:Int):Int:=if k<=4 then k else if k<=15 then 6 else 5
def rS(t:Tk):List UInt8:=if t.Q=2\/t.Q=4 then t.str else kwT t.Q
def rTk(t:Tk)(a z:Nat):Ap:=if t.Q=1 then rtV 1 a 0 [] 0 else rtV (rK t.Q) a z (rS t) t.M
theorem vbq(h:kwK l≠2):kwT (kwK l)=l/\5<=kwK l/\kwK l<=15:=by
 by_cases e0:l=[65,78,68]
 .subst e0;exact⟨rfl,uu,uu⟩
 by_cases e1:l=[79,82]
 .subst e1;exact⟨rfl,uu,uu⟩
 by_cases e2:l=[78,79,84]
 .subst e2;exact⟨rfl,uu,uu⟩
 by_cases e3:l=[84,82,85,69]
 .subst e3;exact⟨rfl,uu,uu⟩
 by_cases e4:l=[70,65,76,83,69]
 .subst e4;exact⟨rfl,uu,uu⟩
 by_cases e5:l=[66,69,84,87,69,69,78]
 .subst e5;exact⟨rfl,uu,uu⟩
 by_cases e6:l=[73,78]
 .subst e6;exact⟨rfl,uu,uu⟩
 by_cases e7:l=[76,73,75,69]
 .subst e7;exact⟨rfl,uu,uu⟩
 by_cases e8:l=[69,83,67,65,80,69]
 .subst e8;exact⟨rfl,uu,uu⟩
 by_cases e9:l=[73,83]
 .subst e9;exact⟨rfl,uu,uu⟩
 by_cases IE:l=[78,85,76,76]
 .subst IE;exact⟨rfl,uu,uu⟩
 exact absurd (by grind[kwK]) h
theorem vn9(b:l=c::t)(d:km c=ui):qE l=qD gK l:=by
 grind[gK,vil,km,qE,qD]
theorem vny(e:kwT k=U)(d:5<=k)(b:k<=15)(a z:Nat):rTk (qk k) a z=rtV 6 a z U 0:=by
 grind[rTk,qk,rK,rS]
theorem qur(S:uk)(a z:Nat):rTk ⟨2,0,S⟩ a z=rtV 2 a z S 0:=by simp[rTk,rK,rS]
theorem qp6(s:uj)(hs:s.size<=200)(p:Nat)(hp:p<s.size)(hb:km s[p]=ui)(w:Ao):
  lz 108 #[Y s,I J p] w (rTk (jk (s.data.toList.drop p)) p (p+qE (s.data.toList.drop p))):=by
 have hl:=qy s
 have hd:s.data.toList.drop p=s[p]::s.data.toList.drop (p+1):=by
  rw[cm (by rwa[qy]),qF s p hp]
 have iX:=vn9 hd hb;have Q:=xE (s.data.toList.drop p);rw[dp,qy]at Q;obtain⟨z,y⟩:=ie (qE (s.data.toList.drop p));have A:T (s.extract p (p+z)).data=(s.data.toList.drop p).take z:=by rw[Lib.extract_data];simp
 have hT:jk (s.data.toList.drop p)=if yI ((s.data.toList.drop p).take z)=2 then⟨2,0,(s.data.toList.drop p).take z⟩ else qk (yI ((s.data.toList.drop p).take z)):=by rw[<-y];rfl
 rw[hT,y];rw[y]at iX Q;obtain⟨W,X⟩:=ie (s.extract p (p+z));rw[X]at A
 have C:W.size<=1000:=by
  have:=congrArg List.length A;rw[qy,cw,dp,qy]at this;omega
 rw[<-A];have CAP:=qd (vkn W C);obtain⟨U,hU⟩:=ie (Lib.toUpperA (T W.data));have hK:yI (T W.data)=kwK U:=by unfold yI;rw[hU]
 rw[hU]at CAP;rw[hK];have KEY:Hid (∀w,uo 157 #[Y (BS U)] w λe w'=>e=Ak (Ah (kwK U != 2))/\w'=w):=qd λw=>qnt (BS U) w
 have K:=qd X;have oN:Hid (z=qD gK (s.data.toList.drop p)+0):=qd uq;obtain⟨x,q⟩:=ie ((kwK U != 2));rw[q]at KEY;obtain⟨R,r⟩:=ie (rTk (if kwK U=2 then⟨2,0,T W.data⟩ else qk (kwK U)) p (p+z));rw[r]
 have tJ:Hid (x=ui->R=rtV 6 p (p+z:Nat) U 0):=qd λe=>by
  have j:kwK U≠2:=by rw[e]at q;simpa using q
  rw[ak j]at r;obtain⟨q1,q2,q3⟩:=vbq j;rw[<-r,vny q1 q2 q3]
 have eM:Hid (x=uh->R=rtV 2 p (p+z:Nat) (T W.data) 0):=qd λe=>by
  have j:kwK U=2:=by rw[e]at q;simpa using q
  rw[bs j]at r;rw[<-r,qur]
 go_enter func108,ntmps108
 go_wp2
 go_loop [5] (λi=>∃k:Nat,p<=k/\k<=s.size/\i=I J k/\Hid (z+p=qD gK (s.data.toList.drop k)+k)) (λi=>s.size - (intOf i).toNat)
 exact⟨p,ux,uq,rfl,qd (md (q9 oN))⟩;obtain⟨k,iA,hk,rfl,B⟩:=hrel
 by_cases bK:∃d:k<s.size,gK s[k]=ui
 .obtain⟨d,b⟩:=bK
  have C8:=vN gK (T s.data) k uq b;have L:Hid (z+p=qD gK (s.data.toList.drop (k+1))+(k+1)):=qd (by rw[q9 B,C8];omega)
  cases J1:km s[k] with
  | true=>
   have v:=qd J1
   go_wp2_with(first|(refine be (jt _ _) ?_;rintro w' rfl;rw[show qd0 (s[k].toNat:Int)=ui from q9 v]))
   go_round
   case rel=>exact⟨k+1,uq,uq,by go_num,L⟩
   simp[intOf];omega
  | false=>
   have v:=qd J1
   cases sS:jx s[k] with
   | true=>
    have H:=qd sS
    go_wp2_with(first|(go_at_call 107;refine be (jt _ _) ?_;rintro w' rfl;rw[show qd0 (s[k].toNat:Int)=uh from q9 v])|(refine be (kH _ _) ?_;rintro w' rfl;rw[show qdc (s[k].toNat:Int)=ui from q9 H]))
    go_round
    case rel=>exact⟨k+1,uq,uq,by go_num,L⟩
    simp[intOf];omega
   | false=>
    have H:=qd sS
    have M:Hid ((s[k].toNat:Int)=46):=qd (by
     unfold gK vil at b;unfold km at J1;unfold jx at sS;rw[J1,sS]at b
     simpa using b)
    go_wp2_with(first|(go_at_call 107;refine be (jt _ _) ?_;rintro w' rfl;rw[show qd0 (s[k].toNat:Int)=uh from q9 v])|(refine be (kH _ _) ?_;rintro w' rfl;rw[show qdc (s[k].toNat:Int)=uh from q9 H];have u:=q9 M))
    go_round
    case rel=>exact⟨k+1,uq,uq,by go_num,L⟩
    simp[intOf];omega
 have P:z+p=k:=by
  by_cases d:k<s.size
  have b:gK s[k]=uh:=by cases b:gK s[k] with|false=>rfl|true=>exact absurd ⟨d,b⟩ bK
  have:=j3 gK (T s.data) k uq b;rw[q9 B,this];omega;have:=jb gK (T s.data) k uq;rw[q9 B,this];omega
 have m:Hid (∀d:k<s.size,km s[k]=uh/\jx s[k]=uh/\¬(s[k].toNat:Int)=46):=qd λd=>by
  have b:gK s[k]=uh:=by cases b:gK s[k] with|false=>rfl|true=>exact absurd ⟨d,b⟩ bK
  unfold gK vil at b;simp only[ir,aw]at b;exact⟨b.1.1,b.1.2,b.2⟩
 have VV:Hid (s.extract p k=W):=qd (by rw[<-P,Nat.add_comm z p];exact q9 K);have HZ:Hid (z+p=k):=qd P
 cases x with
 | true=>
  by_cases d:k<s.size
  all_goals
   go_wp2_with(first|(go_at_call 107;refine be (jt _ _) ?_;rintro w' rfl;rw[show qd0 (s[k].toNat:Int)=uh from(m d).1])|(go_at_call 155;refine be (kH _ _) ?_;rintro w' rfl;rw[show qdc (s[k].toNat:Int)=uh from(m d).2.1];have u:=(m d).2.2)|(go_at_call 156;rw[q9 VV];refine be (CAP _) λf o=>?_;obtain⟨g,hf⟩:=qi o;have B9:=o.size;have N:=qd o;have c0:f.cell? ⟨Z w.1,0,O⟩=G (I J 0):=(g _ 0 ut).trans (by rw[bj _ _ _ ur];simp);have F:f.cell? ⟨Z w.1,1,O⟩=G (I J 0):=(g _ 1 ut).trans (by rw[bj _ _ _ ur];simp);have E:f.cell? ⟨Z w.1,2,O⟩=G (I J 0):=(g _ 2 ut).trans (by rw[bj _ _ _ ur];simp);have D:f.cell? ⟨Z w.1,3,O⟩=G (Y ⟨#[]⟩):=(g _ 3 ut).trans (by rw[bj _ _ _ ur];simp);have c4:f.cell? ⟨Z w.1,4,O⟩=G (I J 0):=(g _ 4 ut).trans (by rw[bj _ _ _ ur];simp))|(refine be (KEY _) ?_;rintro w2 rfl))
   refine bo (by simp[go_sem,c0,F,E,D,c4]<;>rfl) rfl ⟨?_, ?_⟩
   all_goals go_light
   .rw[q9 tJ trivial,show((p+z:Nat):Int)=(k:Int) by have:=q9 HZ;omega]
    rfl
   exact(((((((vh (vh N)).setCell ur _).setCell ur _).setCell ur _).setCell ur _).setCell ur _).setCell ur _).setCell ur _
 | false=>
  by_cases d:k<s.size
  all_goals
   go_wp2_with(first|(go_at_call 107;refine be (jt _ _) ?_;rintro w' rfl;rw[show qd0 (s[k].toNat:Int)=uh from(m d).1])|(go_at_call 155;refine be (kH _ _) ?_;rintro w' rfl;rw[show qdc (s[k].toNat:Int)=uh from(m d).2.1];have u:=(m d).2.2)|(go_at_call 156;rw[q9 VV];refine be (CAP _) λf o=>?_;obtain⟨g,hf⟩:=qi o;have N:=qd o;have c0:f.cell? ⟨Z w.1,0,O⟩=G (I J 0):=(g _ 0 ut).trans (by rw[bj _ _ _ ur];simp);have F:f.cell? ⟨Z w.1,1,O⟩=G (I J 0):=(g _ 1 ut).trans (by rw[bj _ _ _ ur];simp);have E:f.cell? ⟨Z w.1,2,O⟩=G (I J 0):=(g _ 2 ut).trans (by rw[bj _ _ _ ur];simp);have D:f.cell? ⟨Z w.1,3,O⟩=G (Y ⟨#[]⟩):=(g _ 3 ut).trans (by rw[bj _ _ _ ur];simp);have c4:f.cell? ⟨Z w.1,4,O⟩=G (I J 0):=(g _ 4 ut).trans (by rw[bj _ _ _ ur];simp))|(refine be (KEY _) ?_;rintro w2 rfl))
   refine bo (by simp[go_sem,c0,F,E,D,c4]<;>rfl) rfl ⟨?_, ?_⟩
   all_goals go_light
   .rw[q9 eM trivial,show((p+z:Nat):Int)=(k:Int) by have:=q9 HZ;omega]
    rfl
   exact(((((vh (vh N)).setCell ur _).setCell ur _).setCell ur _).setCell ur _).setCell ur _
theorem vso(v:Int)(a z:Nat):rTk ⟨3,v,[]⟩ a z=rtV 3 a z [] v:=by simp[rTk,rK,rS,kwT]
theorem qsb(a z:Nat):rTk (qk 1) a z=rtV 1 a 0 [] 0:=by simp[rTk,qk]
theorem qwb(l:uk)(c:UInt8):∀k,vR k (l++[c])=vR k l * 10+(c.toNat - 48):=by
 induction l with
 | nil=>intro k;rfl
 | cons d t ih=>
  intro k;show vR (k * 10+(d.toNat - 48)) (t++[c])=vR (k * 10+(d.toNat - 48)) t * 10+(c.toNat - 48);rw[ih]
theorem qqs{k:Nat}(d:p<=k)(b:k<s.size):vR 0 ((s.data.toList.drop p).take (k+1 - p))=vR 0 ((s.data.toList.drop p).take (k - p)) * 10+(s[k].toNat - 48):=by
 have e:(s.data.toList.drop p).take (k+1 - p)=(s.data.toList.drop p).take (k - p)++[s[k]]:=by
  rw[show k+1 - p=(k - p)+1 by omega,dt,ix,show p+(k - p)=k by omega,ag (by grind[qy]),qF s k b];rfl
 rw[e,qwb]
def vgr(s:ByteArray)(p k:Nat)(n:Nat)(bad:Bool):Prop:=n<=9223372036854775807/\if bad=ui then 9223372036854775807<vR 0 ((s.data.toList.drop p).take (k - p)) else n=vR 0 ((s.data.toList.drop p).take (k - p))
theorem qsj(s:uj)(hs:s.size<=200)(p:Nat)(hp:p<s.size)(w:Ao):
  lz 185 #[Y s,I J p] w (rTk (yj (s.data.toList.drop p)) p (p+qD jx (s.data.toList.drop p))):=by
 have hl:=qy s;obtain⟨z,q⟩:=ie (qD jx (s.data.toList.drop p));obtain⟨v,hv⟩:=ie (vR 0 ((s.data.toList.drop p).take z));obtain⟨R,x⟩:=ie (rTk (yj (s.data.toList.drop p)) p (p+z))
 have A:Hid (v<=9223372036854775807->R=rtV 3 p (p+z:Nat) [] v):=qd λh=>by
  rw[<-x];unfold yj;rw[q,hv,bs uq,vso]
 have E:Hid (¬v<=9223372036854775807->R=rtV 1 p 0 [] 0):=qd λh=>by
  rw[<-x];unfold yj;rw[q,hv,ak uq,qsb]
 have C:=qd q;have K:=qd hv;rw[q,x];clear x q hv;go_enter func185,ntmps185
 go_wp2
 go_loop [5,6,7] (λi m b=>∃(k n:Nat) (bad:Bool),p<=k/\k<=s.size/\i=I J k/\m=I .u64 n/\b=Ah bad/\Hid (z+p=qD jx (s.data.toList.drop k)+k/\vgr s p k n bad)) (λi _ _=>s.size - (intOf i).toNat)
 exact⟨p,0,uh,ux,uq,rfl,rfl,rfl,qd ⟨md (q9 C),bt _,by rw[iz];rfl⟩⟩;obtain⟨k,m,bad,W,hk,rfl,rfl,rfl,H⟩:=hrel
 by_cases bK:∃f:k<s.size,jx s[k]=ui
 .obtain⟨f,j⟩:=bK
  have o:=vN jx (T s.data) k uq j;have hd:=qqs W f;have B:48<=s[k].toNat/\s[k].toNat<=57:=by simp[jx,qdc]at j;omega
  have bW:(48:Int)<=(s[k].toNat:Int):=uq;have C9:(s[k].toNat:Int)<=57:=uq;obtain⟨g,D,e⟩:=q9 H;obtain⟨d,y⟩:=il (s[k].toNat - 48:Nat);rw[<-y]at hd;have O:d<=9:=uq;have G:(s[k].toNat:Int) - 48=(d:Int):=uq
  cases bad with
  | true=>
   have r:Hid (z+p=qD jx (s.data.toList.drop (k+1))+(k+1)/\vgr s p (k+1) m ui):=qd ⟨by rw[g,o];omega,D,by rw[bs rfl,hd];rw[bs rfl]at e;omega⟩;clear o hd g e H j G y B
   go_wp2
   go_round
   case rel=>exact⟨k+1,m,ui,uq,uq,by go_num,rfl,rfl,r⟩
   simp[intOf];omega
  | false=>
   rw[ak uu]at e
   by_cases hb:m * 10+d<=9223372036854775807
   .have r:Hid (z+p=qD jx (s.data.toList.drop (k+1))+(k+1)/\vgr s p (k+1) (m * 10+d) uh):=qd ⟨by rw[g,o];omega,hb,by rw[ak uu,hd,<-e]⟩
    have F:¬(9223372036854775807 - ((s[k].toNat:Int) - 48)) / 10<(m:Int):=uq;have Q:decide ((9223372036854775807 - ((s[k].toNat:Int) - 48)) / 10<(m:Int))=uh:=da F;have N:(m:Int) * 10+((s[k].toNat:Int) - 48)<=9223372036854775807:=uq;have HQ:Hid ((m:Int) * 10+((s[k].toNat:Int) - 48)=((m * 10+d:Nat):Int)):=qd uq;clear o hd g e H j G B O y hb
    go_wp2
    go_round
    case rel=>exact⟨k+1,m * 10+d,uh,uq,uq,by go_num,by rw[q9 HQ],rfl,r⟩
    simp[intOf];omega
   have r:Hid (z+p=qD jx (s.data.toList.drop (k+1))+(k+1)/\vgr s p (k+1) m ui):=qd ⟨by rw[g,o];omega,D,by rw[bs rfl,hd,<-e];omega⟩;have F:(9223372036854775807 - ((s[k].toNat:Int) - 48)) / 10<(m:Int):=uq;have Q:decide ((9223372036854775807 - ((s[k].toNat:Int) - 48)) / 10<(m:Int))=ui:=de F;clear o hd g e H j G y B O hb
   go_wp2
   go_round
   case rel=>exact⟨k+1,m,ui,uq,uq,by go_num,rfl,rfl,r⟩
   simp[intOf];omega
 obtain⟨g,D,e⟩:=q9 H
 have M:z+p=k:=by
  by_cases f:k<s.size
  have j:jx s[k]=uh:=by cases j:jx s[k] with|false=>rfl|true=>exact absurd ⟨f,j⟩ bK
  have:=j3 jx (T s.data) k uq j;rw[g,this];omega;have:=jb jx (T s.data) k uq;rw[g,this];omega
 rw[show k - p=z by omega,q9 K]at e;have L:∀f:k<s.size,¬(48<=s[k].toNat/\s[k].toNat<=57):=λf h=>bK ⟨f,by simp[jx,qdc];omega⟩
 have HZ:Hid ((p+z:Nat)=k):=qd uq
 have P:k=s.size\/∃f:k<s.size,(¬(48:Int)<=(s[k].toNat:Int))\/((48:Int)<=(s[k].toNat:Int)/\¬(s[k].toNat:Int)<=57):=by
  by_cases f:k<s.size
  right
  refine⟨f, ?_⟩;have:=L f;omega
  left;omega
 have dR:(m:Int)<=9223372036854775807:=uq
 cases bad with
 | true=>
  rw[bs rfl]at e;have u:=q9 E uq;clear L bK H g e M A E C K;obtain rfl|⟨f,X|⟨Z,MM⟩⟩:=P
  all_goals
   go_wp2
   refine um ⟨?_, ?_⟩
   all_goals go_light
   .first|rfl|(rw[u];rfl)
   repeat' (first|exact qM _ _ _|refine Below.setCell ?_ ur _)
 | false=>
  rw[ak uu]at e;have u:=q9 A uq;rw[q9 HZ,<-e]at u;clear L bK H g e M A E C K;obtain rfl|⟨f,X|⟨Z,MM⟩⟩:=P
  all_goals
   go_wp2
   refine um ⟨?_, ?_⟩
   all_goals go_light
   .first|rfl|(rw[u];rfl)
   repeat' (first|exact qM _ _ _|refine Below.setCell ?_ ur _)
theorem vkl(S:uk)(a z:Nat):rTk ⟨4,0,S⟩ a z=rtV 4 a z S 0:=by simp[rTk,rK,rS]
theorem vav{i:Nat}(h:i<s.size):s.extract i (i+1)=BS [s[i]]:=by
 have e:T (s.extract i (i+1)).data=[s[i]]:=by
  have:(s.data.toList.drop i).take (i+1 - i)=[s[i]]:=by
   grind[Nat.add_sub_cancel_left,List.drop_eq_getElem_cons,qy,qF]
  simpa using this
 grind[vpl]
theorem vkj{xs:uk}{k:Nat}(h:vu (l.drop 1)=G (xs,k))(p:Nat):rTk (vY l) p (p+yL l)=rtV 4 p (p+(k+1):Nat) xs 0:=by
 obtain⟨d,b⟩:=gq h;rw[d,b,vkl]
theorem vki(h:vu (l.drop 1)=O)(p:Nat):rTk (vY l) p (p+yL l)=rtV 1 p 0 [] 0:=by
 rw[(qfs h).1,qsb]
theorem vej(s:uj)(N:s.size<=200)(p:Nat)(hp:p<s.size)(w:Ao):
  lz 186 #[Y s,I J p] w (rTk (vY (s.data.toList.drop p)) p (p+yL (s.data.toList.drop p))):=by
 have T:=qy s;obtain⟨l,g⟩:=ie (s.data.toList.drop p);have C:A l=s.size - p:=by rw[<-g,dp,qy]
 have q:Hid (∀i (h:i<s.size),p<=i->∃h':i - p<A l,l[i - p]=s[i]):=qd (by
  intro i h K;refine⟨uq, ?_⟩
  have e:l[i - p]?=G s[i]:=by
   rw[<-g,ix,show p+(i - p)=i by omega,ag (by rwa[qy]),qF s i h]
  exact(aj.1 e).2)
 obtain⟨R,f⟩:=ie (rTk (vY l) p (p+yL l));have v:Hid (∀xs k,vu (l.drop 1)=G (xs,k)->R=rtV 4 p (p+(k+1):Nat) xs 0):=qd λxs k h=>by rw[<-f,vkj h]
 have y:Hid (vu (l.drop 1)=O->R=rtV 1 p 0 [] 0):=qd λh=>by rw[<-f,vki h]
 rw[g,f];have r:=qd C;go_enter func186,ntmps186
 go_wp2
 go_loop [5,6] (λo iv=>∃(i:Nat) (xs:uk),p+1<=i/\i<=s.size/\o=Y (BS xs)/\iv=I J i/\A xs<=i/\Hid (QAt l (i - p) xs)) (λ_ iv=>s.size - (intOf iv).toNat)
 case atStart=>exact⟨p+1,[],ux,uq,rfl,by go_num,bt _,qd (by rw[Nat.add_sub_cancel_left];exact QAt.start l)⟩
 obtain⟨i,xs,K,W,rfl,rfl,M,Q⟩:=hrel
 by_cases A1:i<s.size
 .obtain⟨hq,eQ⟩:=q9 q i A1 uq
  by_cases hc:s[i]=39
  .have D:(s[i].toNat:Int)=39:=by rw[hc];rfl
   by_cases hn:∃h:i+1<s.size,s[i+1]=39
   .obtain⟨h1,h2⟩:=hn
    obtain⟨j,d⟩:=q9 q (i+1) h1 uq;have x:(s[i+1].toNat:Int)=39:=by rw[h2];rfl
    have m:Hid (QAt l (i+2 - p) (xs++[39])):=qd (by
     have:=(q9 Q).two uq uq (by rwa[eQ]) (by
      have e:l[i - p+1]?=G s[i+1]:=by rw[show i - p+1=i+1 - p by omega,ag j,d]
      rwa[(aj.1 e).2])
     rwa [show i - p+2=i+2 - p by omega]at this)
    have H:∀w:Ao,(Op.stringOp .add (BS xs) ⟨#[39]⟩).run prog w=.ok (Y (BS (xs++[39]))) w:=λw=>by
     rw[<-zh];exact run_string_add_sum (P:=prog) (w:=w) _ _ (by rw[qI];show A xs+1<=_;omega)
    have L:(i:Int)+1<(s.size:Int):=uq;have Z:¬(i:Int)+1=(s.size:Int):=uq
    go_wp2
    go_round
    case rel=>exact⟨i+2,xs++[39],uq,uq,rfl,by go_num,ut,m⟩
    simp[intOf];omega
   have F:=(q9 Q).close uq hq (by rwa[eQ]) (λh e=>hn ⟨md (q9 r),by
    obtain⟨j,d⟩:=q9 q (i+1) (md (q9 r)) uq;rw[<-d];have B:l[i - p+1]?=G l[i+1 - p]:=by rw[show i - p+1=i+1 - p by omega,ag j]
    rwa[<-(aj.1 B).2]⟩)
   have b:=q9 v _ _ F;rw[show p+(i - p+1)=i+1 by omega]at b
   have E:i+1=s.size\/∃h:i+1<s.size,¬(s[i+1].toNat:Int)=39:=by
    by_cases h:i+1<s.size
    .right
     refine⟨h,λe=>hn ⟨h, ?_⟩⟩;apply th.1;show s[i+1].toNat=39;omega
    left;omega
   obtain u|⟨h,u⟩:=E
   .have hw':(i:Int)+1=(s.size:Int):=uq
    go_wp2
    refine um ⟨?_, ?_⟩
    all_goals go_light
    .first|rfl|(rw[b];rfl)
    repeat' (first|exact(uy).alloc ux _|refine Below.setCell ?_ ur _)
   have hw':¬(i:Int)+1=(s.size:Int):=uq;have X:((s[i+1].toNat:Int) != 39)=ui:=by simpa using u
   have L:(i:Int)+1<(s.size:Int):=uq
   go_wp2
   refine um ⟨?_, ?_⟩
   all_goals go_light
   .first|rfl|(rw[b];rfl)
   repeat' (first|exact(uy).alloc ux _|refine Below.setCell ?_ ur _)
  have D:¬(s[i].toNat:Int)=39:=λe=>hc (by apply th.1;show s[i].toNat=39;omega)
  have m:Hid (QAt l (i+1 - p) (xs++[s[i]])):=qd (by
   have:=(q9 Q).one uq hq (by rwa[eQ])
   rwa [eQ,show i - p+1=i+1 - p by omega]at this)
  have H:∀w:Ao,(Op.stringOp .add (BS xs) (s.extract i (i+1))).run prog w=.ok (Y (BS (xs++[s[i]]))) w:=λw=>by
   rw[vav A1,<-zh];exact run_string_add_sum (P:=prog) (w:=w) _ _ (by rw[qI,qI];show A xs+1<=_;omega)
  go_wp2
  go_round
  case rel=>exact⟨i+1,xs++[s[i]],uq,uq,rfl,by go_num,ut,m⟩
  simp[intOf];omega
 obtain rfl:i=s.size:=uq;have b:=q9 y (Q.over (md (q9 r)))
 go_wp2
 refine um ⟨?_, ?_⟩
 all_goals go_light
 .first|rfl|(rw[b];rfl)
 repeat' (first|exact(uy).alloc ux _|refine Below.setCell ?_ ur _)
def qgt(l:List UInt8):Prop:=l.take 2=[60,62]\/l.take 2=[60,61]\/l.take 2=[62,61]
def qsy:List UInt8:=[61,60,62,43,45,42,47,40,41,44]
theorem qdw(d:kwT k=U)(b:16<=k)(a z:Nat):rTk (qk k) a z=rtV 5 a z U 0:=by
 grind[rTk,qk,rK,rS]
theorem vf4(h:qgt l)(p:Nat):rTk (qk (yd l)) p (p+ko l)=rtV 5 p (p+2:Nat) (l.take 2) 0:=by
 match l,h with
 | [],h=>simp[qgt]at h
 | [a],h=>simp[qgt]at h
 | a::b::t,h=>
  obtain h|h|h:=h;injection h with e d;injection d with d _;subst e d;exact qdw (k:=17) rfl uu p _;injection h with e d;injection d with d _;subst e d;exact qdw (k:=19) rfl uu p _;injection h with e d;injection d with d _;subst e d;exact qdw (k:=21) rfl uu p _
theorem qmy{a:UInt8}(h:¬qgt (a::t)):ko (a::t)=1:=by
 cases t with
 | nil=>rfl
 | cons b t=>
  unfold ko;simp only;rw[ak];intro e;apply h;simp only[fh,dn,ew]at e;obtain⟨rfl,rfl⟩|⟨rfl|rfl,rfl⟩:=e;exact Am rfl;exact An (Am rfl);exact An (An rfl)
theorem qmz{a:UInt8}(h:¬qgt (a::t)):yd (a::t)=qj9 [a]:=by
 unfold yd;rw[ak (λe=>h (Am (by simpa using e))),qmy h];rfl
theorem vmm{a:UInt8}(h:¬qgt (a::t))(b:a∈qsy)(p:Nat):rTk (qk (yd (a::t))) p (p+ko (a::t))=rtV 5 p (p+1:Nat) [a] 0:=by
 rw[qmz h,qmy h];unfold qsy at b;simp only[ep,ln,or_false]at b;obtain rfl|rfl|rfl|rfl|rfl|rfl|rfl|rfl|rfl|rfl:=b<;>exact qdw rfl uu p _
theorem vf3{a:UInt8}(h:¬qgt (a::t))(b:a∉qsy)(p:Nat):rTk (qk (yd (a::t))) p (p+ko (a::t))=rtV 1 p 0 [] 0:=by
 rw[qmz h];unfold qsy at b;simp only[ep,ln,or_false,not_or]at b
 have:qj9 [a]=1:=by
  unfold qj9;simp[b]
 rw[this,qsb]
theorem vef(s:uj)(W:s.size<=200)(p:Nat)(hp:p<s.size)(w:Ao):
  lz 187 #[Y s,I J p] w (rTk (qk (yd (s.data.toList.drop p))) p (p+ko (s.data.toList.drop p))):=by
 have X:=qy s
 have hd:s.data.toList.drop p=s[p]::s.data.toList.drop (p+1):=by
  rw[cm (by rwa[qy]),qF s p hp]
 have g:T (s.extract p (p+2)).data=(s.data.toList.drop p).take 2:=by rw[Lib.extract_data];simp
 obtain⟨R,i⟩:=ie (rTk (qk (yd (s.data.toList.drop p))) p (p+ko (s.data.toList.drop p)));rw[i];obtain⟨ua,u⟩:=ie (s.extract p (p+2));rw[u]at g;have r:(p:Int)+2<=(s.size:Int)\/¬(p:Int)+2<=(s.size:Int):=uq
 by_cases rB:qgt (s.data.toList.drop p)
 .have h2:p+2<=s.size:=by
   have:A ((s.data.toList.drop p).take 2)=2:=by obtain h|h|h:=rB<;>rw[h]<;>rfl
   rw[cw,dp,qy]at this;omega
  have y:(p:Int)+2<=(s.size:Int):=uq;have f:=vf4 rB p;rw[i,<-g]at f;have m:ua.toList=(s.data.toList.drop p).take 2:=by rw[io,g]
  unfold qgt at rB;rw[<-m]at rB;clear hd g i m r;obtain h|h|h:=rB
  all_goals
   go_enter func187,ntmps187
   go_wp2
   refine um ⟨?_, ?_⟩
   all_goals go_light
   .first|rfl|(rw[f];rfl)
   repeat' (first|exact(uy).alloc ux _|refine Below.setCell ?_ ur _)
 have o:s.extract p (p+1)=BS [s[p]]:=vav hp;rw[hd]at rB
 have j:∀x:uk,(x=[60,62]\/x=[60,61]\/x=[62,61])->(ua.toList==x)=uh:=λx B=>by
  rw[io,g,hd];refine aw.2 λe=>rB ?_
  unfold qgt;rwa[e]
 have F:=j [60,62] (Am rfl);have E:=j [60,61] (An (Am rfl));have D:=j [62,61] (An (An rfl))
 by_cases ha:s[p]∈qsy
 .have h0r:=vmm rB ha p
  rw[<-hd,i]at h0r;obtain⟨S,v⟩:=ie (s.extract p (p+1));have f:R=Ai #[I J 5,I J p,I J ((p:Int)+1),Y S,I J 0]:=by rw[h0r,<-v,o];rfl
  have d:(s[p].toNat:Int)=61\/(s[p].toNat:Int)=60\/(s[p].toNat:Int)=62\/(s[p].toNat:Int)=43\/(s[p].toNat:Int)=45\/(s[p].toNat:Int)=42\/(s[p].toNat:Int)=47\/(s[p].toNat:Int)=40\/(s[p].toNat:Int)=41\/(s[p].toNat:Int)=44:=by
   unfold qsy at ha;simp only[ep,ln,or_false]at ha;obtain h|h|h|h|h|h|h|h|h|h:=ha<;>rw[h]<;>decide
  have C:=qd f;clear hd g i j rB ha o f h0r;obtain q|q:=r<;>obtain d|d|d|d|d|d|d|d|d|d:=d
  all_goals
   go_enter func187,ntmps187
   go_wp2
   refine um ⟨?_, ?_⟩
   all_goals go_light
   rw[q9 C]
   repeat' (first|exact(uy).alloc ux _|refine Below.setCell ?_ ur _)
 have f:=vf3 rB ha p;rw[<-hd,i]at f
 have b:∀x∈qsy,((s[p].toNat:Int)==(x.toNat:Int))=uh:=λx B=>aw.2 λe=>ha (by
  have:s[p]=x:=th.1 uq
  rwa[this])
 have Q:((s[p].toNat:Int)==61)=uh:=b 61 uu;have P:((s[p].toNat:Int)==60)=uh:=b 60 uu;have O:((s[p].toNat:Int)==62)=uh:=b 62 uu;have N:((s[p].toNat:Int)==43)=uh:=b 43 uu;have M:((s[p].toNat:Int)==45)=uh:=b 45 uu;have L:((s[p].toNat:Int)==42)=uh:=b 42 uu;have K:((s[p].toNat:Int)==47)=uh:=b 47 uu;have H:((s[p].toNat:Int)==40)=uh:=b 40 uu;have G:((s[p].toNat:Int)==41)=uh:=b 41 uu;have n0:((s[p].toNat:Int)==44)=uh:=b 44 uu;clear hd g i j rB ha o b;obtain q|q:=r
 all_goals
  go_enter func187,ntmps187
  go_wp2
  refine um ⟨?_, ?_⟩
  all_goals go_light
  .first|rfl|(rw[f];rfl)
  repeat' (first|exact(uy).alloc ux _|refine Below.setCell ?_ ur _)
theorem vkk(t:Tk)(a z:Nat):∃k a' z' S n,rTk t a z=Ai #[I J k,I J a',I J z',Y S,I J n]:=by
 unfold rTk
 split<;>exact⟨_,_,_,_,_,rfl⟩
theorem vsn(a z:Nat):rTk (qk 0) a z=Ai #[I J 0,I J a,I J z,Y ⟨#[]⟩,I J 0]:=by
 rfl
theorem vid(s:uj)(f:s.size<=200)(k:Nat)(g:k<s.size):∃(K:Nat) (b d q:Bool),qd0 (s[k].toNat:Int)=b/\qdc (s[k].toNat:Int)=d/\((s[k].toNat:Int)==39)=q/\(∀w,uo K #[Y s,I J k] w λe w'=>e=Ak (rTk (vk (s.data.toList.drop k)) k (k+xN (s.data.toList.drop k)))/\Xb w w') /\
  (K=108/\b=ui/\d=uh\/K=185/\b=uh/\d=ui\/K=186/\b=uh/\d=uh/\q=ui\/K=187/\b=uh/\d=uh/\q=uh):=by
 have hd:s.data.toList.drop k=s[k]::s.data.toList.drop (k+1):=by
  grind[List.drop_eq_getElem_cons,qy,qF]
 have i:vk (s.data.toList.drop k)=if km s[k] then jk (s.data.toList.drop k) else if jx s[k] then yj (s.data.toList.drop k) else if s[k]==39 then vY (s.data.toList.drop k) else qk (yd (s.data.toList.drop k)):=by rw[hd];rfl
 have h:xN (s.data.toList.drop k)=if km s[k] then qE (s.data.toList.drop k) else if jx s[k] then qD jx (s.data.toList.drop k) else if s[k]==39 then yL (s.data.toList.drop k) else ko (s.data.toList.drop k):=by rw[hd];rfl
 rw[i,h]
 cases hb:km s[k] with
 | true=>exact⟨_,_,_,_,hb,(Bool.eq_false_iff.2 λe=>by grind[qdc,km,qd0]),rfl,qp6 s f k g hb,Am ⟨rfl,rfl,rfl⟩⟩
 | false=>
  cases hg:jx s[k] with
  | true=>exact⟨_,_,_,_,hb,hg,rfl,qsj s f k g,An (Am ⟨rfl,rfl,rfl⟩)⟩
  | false=>
   by_cases h39:s[k]=39
   .rw[show(s[k]==39)=ui by rw[h39];rfl]
    exact⟨_,_,_,_,hb,hg,by rw[h39];decide,vej s f k g,An (An (Am ⟨rfl,rfl,rfl,rfl⟩))⟩
   rw[show(s[k]==39)=uh by simpa using h39];exact⟨_,_,_,_,hb,hg,aw.2 λe=>h39 (th.1 (by grind)),vef s f k g,An (An (An ⟨rfl,rfl,rfl,rfl⟩))⟩
theorem ve2(s:uj)(y:s.size<=200)(p:Nat)(hp:p<=s.size)(w:Ao):
  lz 127 #[Y s,I J p] w (rTk (qQ (T s.data) p) (qS (T s.data) p) (vq (T s.data) p)):=by
 have D:=qy s;obtain⟨z,m⟩:=ie (qS (T s.data) p);have X:z=qD spU (s.data.toList.drop p)+p:=by rw[<-m];unfold qS;omega
 obtain⟨R,r⟩:=ie (rTk (qQ (T s.data) p) (qS (T s.data) p) (vq (T s.data) p))
 have L:Hid (z=s.size->R=Ai #[I J 0,I J s.size,I J s.size,Y ⟨#[]⟩,I J 0]):=qd λh=>by
  rw[<-r];unfold qQ vq;rw[m,ak uq,ak uq,D,h];exact vsn _ _
 have G:Hid (z<s.size->R=rTk (vk (s.data.toList.drop z)) z (z+xN (s.data.toList.drop z))):=qd λh=>by
  rw[<-r];unfold qQ vq;rw[m,bs uq,bs uq]
 rw[r];have P:=qd X;go_enter func127,ntmps127
 go_wp2
 go_loop [1] (λi=>∃k:Nat,p<=k/\k<=s.size/\i=I J k/\Hid (z=qD spU (s.data.toList.drop k)+k)) (λi=>s.size - (intOf i).toNat)
 exact⟨p,ux,hp,rfl,P⟩;obtain⟨k,iA,hk,rfl,o⟩:=hrel
 by_cases bK:∃A1:k<s.size,spU s[k]=ui
 .obtain⟨A1,e⟩:=bK
  have C8:=vN spU (T s.data) k uq e;have Q:Hid (z=qD spU (s.data.toList.drop (k+1))+(k+1)):=qd (by rw[q9 o,C8];omega)
  have f:(s[k].toNat:Int)=32\/(s[k].toNat:Int)=9\/(s[k].toNat:Int)=10:=by
   unfold spU spB at e;simpa [or_assoc]using e
  obtain f|f|f:=f
  all_goals
   go_wp2
   go_round
   case rel=>exact⟨k+1,uq,uq,by go_num,Q⟩
   simp[intOf];omega
 have x:z=k:=by
  by_cases A1:k<s.size
  have e:spU s[k]=uh:=by cases e:spU s[k] with|false=>rfl|true=>exact absurd ⟨A1,e⟩ bK
  have:=j3 spU (T s.data) k uq e;rw[q9 o,this];omega;have:=jb spU (T s.data) k uq;rw[q9 o,this];omega
 by_cases A1:k<s.size
 .have g:=q9 G uq
  rw[x]at g;have e:spU s[k]=uh:=by cases e:spU s[k] with|false=>rfl|true=>exact absurd ⟨A1,e⟩ bK
  have C:((s[k].toNat:Int)==32)=uh/\((s[k].toNat:Int)==9)=uh/\((s[k].toNat:Int)==10)=uh:=by
   unfold spU spB at e;simpa [and_assoc]using e
  obtain⟨n1,n2,n3⟩:=C;have B:((k:Int)==(s.size:Int))=uh:=aw.2 uq;obtain⟨q1,q2,q3,q4,q5,hq⟩:=vkk (vk (s.data.toList.drop k)) k (k+xN (s.data.toList.drop k));obtain⟨K,b,d,q,E,hd,F,j,f⟩:=vid s y k A1;rw[hq]at g j;have N:=qd E;have M:=qd hd;have W:=qd F;have j:=qd j;obtain⟨rfl,rfl,rfl⟩|⟨rfl,rfl,rfl⟩|⟨rfl,rfl,rfl,rfl⟩|⟨rfl,rfl,rfl,rfl⟩:=f
  all_goals
   go_wp2_with(first|(go_at_call 107;refine be (jt _ _) ?_;rintro w' rfl;rw[q9 N])|(go_at_call 155;refine be (kH _ _) ?_;rintro w' rfl;rw[q9 M];have A:=q9 W)|((first|go_at_call 108|go_at_call 185|go_at_call 186|go_at_call 187);refine be (j _) λv u=>?_;obtain⟨f,hf⟩:=qi u;have B9:=u.size;have B1:=qd u;have c0:∀i,v.cell? ⟨Z w.1,i,O⟩=(#[I J 0,I J 0,I J 0,Y ⟨#[]⟩,I J 0]:Array Ap)[i]?:=(λi=>(f _ i ur).trans ur)))
   refine bo (by simp[go_sem,c0]<;>rfl) rfl ⟨?_, ?_⟩
   all_goals go_light
   .first|rfl|(rw[g])
   repeat' (first|exact vh B1|refine Below.setCell ?_ ur _)
 have H:k=s.size:=uq;have g:=q9 L uq;subst H
 go_wp2
 refine um ⟨?_, ?_⟩
 all_goals go_light
 .first|rfl|(rw[g])
 repeat' (first|exact(uy).alloc ux _|refine Below.setCell ?_ ur _)
structure TrC(w:Ao)(rb:Nat)(nv:Ap)(s:ByteArray)(k a z:Int)(S:ByteArray)(n op er at':Int):Prop where
 lt:rb<w.1.size
 c0:w.cell? ⟨rb,0,O⟩=G nv
 c1:w.cell? ⟨rb,1,O⟩=G (Y s)
 c2:w.cell? ⟨rb,2,O⟩=G (I J k)
 c3:w.cell? ⟨rb,3,O⟩=G (I J a)
 c4:w.cell? ⟨rb,4,O⟩=G (I J z)
 c5:w.cell? ⟨rb,5,O⟩=G (Y S)
 c6:w.cell? ⟨rb,6,O⟩=G (I J n)
 c7:w.cell? ⟨rb,7,O⟩=G (I J op)
 c8:w.cell? ⟨rb,8,O⟩=G (I J er)
 c9:w.cell? ⟨rb,9,O⟩=G (I J at')
 fz:∀j,w.frozen? ⟨rb,j,O⟩=uh
theorem pk(h:TrC w rb nv s k a z S n op er at')(kind:Int)(X:uj):
  uo 129 #[Ag (G (D rb 0 O)),I J kind,Y X] w λe w'=>e=Ak (Ah (k==kind&&(S.toList==X.toList)))/\w'=w:=by
 obtain⟨lt,c0,i,g,f,c4,d,b,c7,c8,c9,fz⟩:=h;cases hk:(k==kind)
 all_goals
  go_enter func129,ntmps129
  go_wp2
  all_goals(go_ret;exact⟨rfl,rfl⟩)
theorem gw(h:TrC w rb nv s k a z S n op 0 at')(er b:Int):
  uo 94 #[Ag (G (D rb 0 O)),I J er,I J b] w λe w'=>e=Ak (Aj #[])/\TrC w' rb nv s 1 a 0 ⟨#[]⟩ 0 op er b/\Kept rb w w':=by
 obtain⟨lt,c0,m,i,g,c4,f,d,c7,c8,c9,fz⟩:=h;go_enter func94,ntmps94
 go_wp2
 go_end0
 refine⟨rfl,⟨by simpa using lt, ?_, ?_, ?_, ?_, ?_, ?_, ?_, ?_, ?_, ?_,λj=>?_⟩,(((((((Kept.refl rb w).setCell 8 _).setCell 9 _).setCell 2 _).setCell 3 _).setCell 4 _).setCell 5 _).setCell 6 _⟩
 all_goals simp[go_sem,c0,m,i,g,c4,f,d,c7,c8,c9,fz]
theorem qfz(h:TrC w rb nv s k a z S n op er at')(g:er≠0)(b d:Int):
  uo 94 #[Ag (G (D rb 0 O)),I J b,I J d] w λe w'=>e=Ak (Aj #[])/\TrC w' rb nv s 1 a 0 ⟨#[]⟩ 0 op er at'/\Kept rb w w':=by
 obtain⟨lt,c0,r,q,o,c4,m,i,c7,c8,c9,fz⟩:=h;have f:(er==0)=uh:=aw.2 g;go_enter func94,ntmps94
 go_wp2
 go_end0
 refine⟨rfl,⟨by simpa using lt, ?_, ?_, ?_, ?_, ?_, ?_, ?_, ?_, ?_, ?_,λj=>?_⟩,(((((Kept.refl rb w).setCell 2 _).setCell 3 _).setCell 4 _).setCell 5 _).setCell 6 _⟩
 all_goals simp[go_sem,c0,r,q,o,c4,m,i,c7,c8,c9,fz]
theorem TrC.h{w':Ao}(h:TrC w rb nv s k a z S n op er at')(d:Xb w w'):TrC w' rb nv s k a z S n op er at':=by
 obtain⟨lt,c0,o,m,i,c4,g,f,c7,c8,c9,fz⟩:=h;obtain⟨b,e⟩:=qi d;exact⟨au lt d.size,(b _ _ lt).trans c0,(b _ _ lt).trans o,(b _ _ lt).trans m,(b _ _ lt).trans i,(b _ _ lt).trans c4,(b _ _ lt).trans g,(b _ _ lt).trans f,(b _ _ lt).trans c7,(b _ _ lt).trans c8,(b _ _ lt).trans c9,λj=>(e _ _ lt).trans (fz j)⟩
theorem TrC.alloc(h:TrC w rb nv s k a z S n op er at')(o:Obj):TrC (w.alloc o) rb nv s k a z S n op er at':=h.h (uy.alloc ux o)
theorem Kept.far{a:Ao}(h:Kept rb a w){p:Addr}(hp:Z a.1<=p.block)(u:Ap):Kept rb a (B w p u):=by
 refine⟨h.os,h.tape,h.output,by have:=h.size;simp;omega,λk d b=>?_⟩
 grind[Below.heap_setCell,Kept]
theorem Kept.more{a:Ao}(h:Kept rb a w)(o:Obj):Kept rb a (w.alloc o):=h.trans (Kept.x (uy.alloc ux o))
theorem yU(h:TrC w rb nv s k a p S n op 0 at')(R:s.size<=200)(hp:p<=s.size){M N K:Int}{P:uj}{L:Int}
  (hT:rTk (qQ (T s.data) p) (qS (T s.data) p) (vq (T s.data) p)=Ai #[I J M,I J N,I J K,Y P,I J L]) :
  uo 92 #[Ag (G (D rb 0 O))] w λe w'=>e=Ak (Aj #[])/\TrC w' rb nv s M N K P L op 0 at'/\Kept rb w w':=by
 have H:=qd h;obtain⟨lt,c0,c1,c2,c3,c4,c5,c6,c7,c8,c9,fz⟩:=h;have Q:=qd (ve2 s R p hp);rw[hT]at Q;go_enter func92,ntmps92
 go_wp2
 go_region_with(go_at_call 127;refine be (Q _) λd g=>?_;first|(have f:Xb w d:=((Below.refl (Z w.1) w).drew).trans g;have F:=qd f;obtain⟨b,E,C,B,A,y,x,v,u,r,q,o⟩:=(q9 H).h f)|(have f:Xb w d:=(((Below.refl (Z w.1) w).alloc ux _).drew).trans (g.mono (by show _<=Z (w.alloc _).1;simp));have F:=qd f;obtain⟨b,E,C,B,A,y,x,v,u,r,q,o⟩:=(q9 H).h f;obtain⟨X,W⟩:=qi g;have B9:Z w.1<Z d.1:=(by have:=g.size;have e:(w.alloc (Al #[I J 0,I J 0,I J 0,Y ⟨#[]⟩,I J 0] 171)).drew.1.size=Z w.1+1:=(by show(w.alloc _).1.size=_;simp);omega);have e0:∀i,d.cell? ⟨Z w.1,i,O⟩=(#[I J 0,I J 0,I J 0,Y ⟨#[]⟩,I J 0]:Array Ap)[i]?:=(λi=>(X _ i (by show _<Z (w.alloc _).1;simp)).trans (by show(w.alloc _).cell? _=_;simp));have ef:Xf d (Z w.1):=(λj=>(W _ j (by show _<Z (w.alloc _).1;simp)).trans (by show(w.alloc _).frozen? _=_;simp));have m:¬rb=Z w.1:=uq;have FG:¬Z w.1=rb:=uq))
 all_goals(go_wp2)
 all_goals go_end0
 all_goals first
  | (
   have _q:=m;refine⟨rfl,⟨by simpa using b, ?_, ?_, ?_, ?_, ?_, ?_, ?_, ?_, ?_, ?_,λj=>?_⟩,((((((((((Kept.x F).far (p:=⟨Z w.1,0,O⟩) ux _).far (p:=⟨Z w.1,1,O⟩) ux _).far (p:=⟨Z w.1,2,O⟩) ux _).far (p:=⟨Z w.1,3,O⟩) ux _).far (p:=⟨Z w.1,4,O⟩) ux _).setCell 2 _).setCell 3 _).setCell 4 _).setCell 5 _).setCell 6 _⟩
   all_goals simp[go_sem,E,C,B,A,y,x,v,u,r,q,o])
  | (
   refine⟨rfl,TrC.alloc ⟨by simpa using b, ?_, ?_, ?_, ?_, ?_, ?_, ?_, ?_, ?_, ?_,λj=>?_⟩ _,((((((Kept.x F).setCell 2 _).setCell 3 _).setCell 4 _).setCell 5 _).setCell 6 _).more _⟩
   all_goals simp[go_sem,E,C,B,A,y,x,v,u,r,q,o])
end Go.Proofs.YtmepkbgodcffoaaGreatDoor
