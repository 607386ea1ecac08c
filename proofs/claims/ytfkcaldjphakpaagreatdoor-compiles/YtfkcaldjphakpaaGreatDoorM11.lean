/- The document's answer. -/
import Derived.Test.YtfkcaldjphakpaaGreatDoorM10
set_option maxHeartbeats 32000000
namespace Go.Proofs.YtfkcaldjphakpaaGreatDoor
open Go.RowKit Go.Proofs.Tryz
theorem rTk_num(v:Int)(a z:Nat):rTk ⟨3,v,[]⟩ a z=rtV 3 a z [] v:=by simp[rTk,rK,rS,kwT]
theorem jn5(a z:Nat):rTk (j7 1) a z=rtV 1 a 0 [] 0:=by simp[rTk,j7]
theorem jv0(l:List UInt8)(c:UInt8):∀k,qf4 k (l++[c])=qf4 k l * 10+(c.toNat - 48):=by
 induction l with
 | nil=>intro k;rfl
 | cons d t ih=>
  intro k;show qf4 (k * 10+(d.toNat - 48)) (t++[c])=qf4 (k * 10+(d.toNat - 48)) t * 10+(c.toNat - 48);rw[ih]
theorem jj5{s:ByteArray}{p k:Nat}(lR:p<=k)(hk:k<s.size):qf4 0 ((s.data.toList.drop p).take (k+1 - p))=qf4 0 ((s.data.toList.drop p).take (k - p)) * 10+(s[k].toNat - 48):=by
 have e:(s.data.toList.drop p).take (k+1 - p)=(s.data.toList.drop p).take (k - p)++[s[k]]:=by
  rw[show k+1 - p=(k - p)+1 by omega,List.take_add_one,List.getElem?_drop,show p+(k - p)=k by omega,List.getElem?_eq_getElem (by rw[qa5];exact hk),qb2 s k hk];rfl
 rw[e,jv0]
def NumAt(s:ByteArray)(p k:Nat)(n:Nat)(bad:Bool):Prop:=n<=9223372036854775807/\if bad=true then 9223372036854775807<qf4 0 ((s.data.toList.drop p).take (k - p)) else n=qf4 0 ((s.data.toList.drop p).take (k - p))
theorem jp1(s:ByteArray)(hs:s.size<=200)(p:Nat)(hp:p<s.size)(w:World):
  Calls prog 256 #[.string s,.int .i64 p] w λe w'=>e=.returned (rTk (qp5 (s.data.toList.drop p)) p (p+qa3 qh3 (s.data.toList.drop p)))/\Below w.heap.size w w':=by
 have hl:=qa5 s;obtain⟨z,hz⟩:∃z,qa3 qh3 (s.data.toList.drop p)=z:=⟨_,rfl⟩;obtain⟨v,hv⟩:∃v,qf4 0 ((s.data.toList.drop p).take z)=v:=⟨_,rfl⟩;obtain⟨R,hR⟩:∃R,rTk (qp5 (s.data.toList.drop p)) p (p+z)=R:=⟨_,rfl⟩
 have iN:Hid (v<=9223372036854775807->R=rtV 3 p (p+z:Nat) [] v):=j3 λh=>by
  rw[←hR];unfold qp5;rw[hz,hv,if_pos (by omega),rTk_num]
 have aD:Hid (¬v<=9223372036854775807->R=rtV 1 p 0 [] 0):=j3 λh=>by
  rw[←hR];unfold qp5;rw[hz,hv,if_neg (by omega),jn5]
 have dO:=j3 hz;have HV:=j3 hv;rw[hz,hR];clear hR hz hv;go_enter func256,ntmps256
 go_wp2_with fail
 go_loop [5,6,7] (λi m b=>∃(k n:Nat) (bad:Bool),p<=k/\k<=s.size/\i=.int .i64 k/\m=.int .u64 n/\b=.bool bad/\Hid (z+p=qa3 qh3 (s.data.toList.drop k)+k/\NumAt s p k n bad)) (λi _ _=>s.size - (intOf i).toNat)
 case atStart=>exact⟨p,0,false,Nat.le_refl _,by omega,rfl,rfl,rfl,j3 ⟨by have:=q9 dO;omega,Nat.zero_le _,by rw[Nat.sub_self];rfl⟩⟩
 case round=>
  obtain⟨k,m,bad,lR,hk,rfl,rfl,rfl,H⟩:=hrel
  by_cases Z1:∃A1:k<s.size,qh3 s[k]=true
  ·obtain⟨A1,hg⟩:=Z1
   have A5:=qe9 qh3 s.data.toList k (by omega) hg;have hd:=jj5 lR A1;have V8:48<=s[k].toNat/\s[k].toNat<=57:=by simp[qh3,ve3]at hg;omega
   have aM:(48:Int)<=(s[k].toNat:Int):=by omega
   have F1:(s[k].toNat:Int)<=57:=by omega
   obtain⟨h1,hm,h2⟩:=q9 H;obtain⟨d,vS⟩:∃d:Nat,d=s[k].toNat - 48:=⟨_,rfl⟩;rw[←vS]at hd;have FJ:d<=9:=by omega
   have yW:(s[k].toNat:Int) - 48=(d:Int):=by omega
   cases bad with
   | true=>
    have HN:Hid (z+p=qa3 qh3 (s.data.toList.drop (k+1))+(k+1)/\NumAt s p (k+1) m true):=j3 ⟨by rw[h1,A5];omega,hm,by rw[if_pos rfl,hd];rw[if_pos rfl]at h2;omega⟩;clear A5 hd h1 h2 H hg yW vS V8
    go_wp2_with fail
    go_round
    case rel=>exact⟨k+1,m,true,by omega,by omega,by go_num,rfl,rfl,HN⟩
    case measure=>simp[intOf];omega
   | false=>
    rw[if_neg (by decide)]at h2
    by_cases hb:m * 10+d<=9223372036854775807
    ·have HN:Hid (z+p=qa3 qh3 (s.data.toList.drop (k+1))+(k+1)/\NumAt s p (k+1) (m * 10+d) false):=j3 ⟨by rw[h1,A5];omega,hb,by rw[if_neg (by decide),hd,←h2]⟩
     have m7:¬(9223372036854775807 - ((s[k].toNat:Int) - 48)) / 10<(m:Int):=by omega
     have yX:decide ((9223372036854775807 - ((s[k].toNat:Int) - 48)) / 10<(m:Int))=false:=decide_eq_false m7;have LC:(m:Int) * 10+((s[k].toNat:Int) - 48)<=9223372036854775807:=by omega
     have HQ:Hid ((m:Int) * 10+((s[k].toNat:Int) - 48)=((m * 10+d:Nat):Int)):=j3 (by omega);clear A5 hd h1 h2 H hg yW V8 FJ vS hb
     go_wp2_with fail
     go_round
     case rel=>exact⟨k+1,m * 10+d,false,by omega,by omega,by go_num,by rw[q9 HQ],rfl,HN⟩
     case measure=>simp[intOf];omega
    ·have HN:Hid (z+p=qa3 qh3 (s.data.toList.drop (k+1))+(k+1)/\NumAt s p (k+1) m true):=j3 ⟨by rw[h1,A5];omega,hm,by rw[if_pos rfl,hd,←h2];omega⟩
     have m7:(9223372036854775807 - ((s[k].toNat:Int) - 48)) / 10<(m:Int):=by omega
     have yX:decide ((9223372036854775807 - ((s[k].toNat:Int) - 48)) / 10<(m:Int))=true:=decide_eq_true m7;clear A5 hd h1 h2 H hg yW vS V8 FJ hb
     go_wp2_with fail
     go_round
     case rel=>exact⟨k+1,m,true,by omega,by omega,by go_num,rfl,rfl,HN⟩
     case measure=>simp[intOf];omega
  ·obtain⟨h1,hm,h2⟩:=q9 H
   have iV:z+p=k:=by
    by_cases A1:k<s.size
    ·have hg:qh3 s[k]=false:=by cases hg:qh3 s[k] with|false=>rfl|true=>exact absurd ⟨A1,hg⟩ Z1
     have:=qf9 qh3 s.data.toList k (by omega) hg;rw[h1,this];omega
    ·have:=qh0 qh3 s.data.toList k (by omega)
     rw[h1,this];omega
   rw[show k - p=z by omega,q9 HV]at h2;have HG:∀A1:k<s.size,¬(48<=s[k].toNat/\s[k].toNat<=57):=λA1 h=>Z1 ⟨A1,by simp[qh3,ve3];omega⟩
   have HZ:Hid ((p+z:Nat)=k):=j3 (by omega)
   have lM:k=s.size\/∃A1:k<s.size,(¬(48:Int)<=(s[k].toNat:Int))\/((48:Int)<=(s[k].toNat:Int)/\¬(s[k].toNat:Int)<=57):=by
    by_cases A1:k<s.size
    ·right
     refine⟨A1, ?_⟩;have:=HG A1;omega
    ·left;omega
   have V9:(m:Int)<=9223372036854775807:=by omega
   cases bad with
   | true=>
    rw[if_pos rfl]at h2;have hr:=q9 aD (by omega);clear HG Z1 H h1 h2 iV iN aD dO HV;rcases lM with rfl|⟨A1,hw|⟨aH,gC⟩⟩
    all_goals
     go_wp2_with fail
     refine bodyPost_ret (by simp[results,results256,go_sem]<;>rfl) rfl ⟨?_, ?_⟩
     all_goals go_light
     ·first|rfl|(rw[hr];rfl)
     ·repeat' (first|exact vr1 _ _ _|refine Below.setCell ?_ (by simp) _)
   | false=>
    rw[if_neg (by decide)]at h2;have hr:=q9 iN (by omega);rw[q9 HZ,←h2]at hr;clear HG Z1 H h1 h2 iV iN aD dO HV;rcases lM with rfl|⟨A1,hw|⟨aH,gC⟩⟩
    all_goals
     go_wp2_with fail
     refine bodyPost_ret (by simp[results,results256,go_sem]<;>rfl) rfl ⟨?_, ?_⟩
     all_goals go_light
     ·first|rfl|(rw[hr];rfl)
     ·repeat' (first|exact vr1 _ _ _|refine Below.setCell ?_ (by simp) _)
theorem rTk_text(S:List UInt8)(a z:Nat):rTk ⟨4,0,S⟩ a z=rtV 4 a z S 0:=by simp[rTk,rK,rS]
theorem ext_one{s:ByteArray}{i:Nat}(h:i<s.size):s.extract i (i+1)=BS [s[i]]:=by
 have e:(s.extract i (i+1)).data.toList=[s[i]]:=by
  rw[Lib.extract_data]
  have:(s.data.toList.drop i).take (i+1 - i)=[s[i]]:=by
   rw[Nat.add_sub_cancel_left,List.drop_eq_getElem_cons (by rw[qa5];exact h),qb2 s i h];rfl
  simpa using this
 rw[←BS_of (s.extract i (i+1)),e]
theorem quot_ret{l:List UInt8}{xs:List UInt8}{k:Nat}(h:qe2 (l.drop 1)=some (xs,k))(p:Nat):rTk (qf5 l) p (p+qq7 l)=rtV 4 p (p+(k+1):Nat) xs 0:=by
 obtain⟨h1,h2⟩:=qu2 h;rw[h1,h2,rTk_text]
theorem quot_bad{l:List UInt8}(h:qe2 (l.drop 1)=none)(p:Nat):rTk (qf5 l) p (p+qq7 l)=rtV 1 p 0 [] 0:=by
 rw[(vn7 h).1,jn5]
theorem rtext_any(s:ByteArray)(hs:s.size<=200)(p:Nat)(hp:p<s.size)(w:World):
  Calls prog 257 #[.string s,.int .i64 p] w λe w'=>e=.returned (rTk (qf5 (s.data.toList.drop p)) p (p+qq7 (s.data.toList.drop p)))/\Below w.heap.size w w':=by
 have hl:=qa5 s;obtain⟨l,hL⟩:∃l,s.data.toList.drop p=l:=⟨_,rfl⟩;have rX:l.length=s.size - p:=by rw[←hL,List.length_drop,qa5]
 have HX:Hid (∀i (h:i<s.size),p<=i->∃h':i - p<l.length,l[i - p]=s[i]):=j3 (by
  intro i h vJ;refine⟨by omega, ?_⟩
  have e:l[i - p]?=some s[i]:=by
   rw[←hL,List.getElem?_drop,show p+(i - p)=i by omega,List.getElem?_eq_getElem (by rw[qa5];exact h),qb2 s i h]
  exact(List.getElem?_eq_some_iff.1 e).2)
 obtain⟨R,hR⟩:∃R,rTk (qf5 l) p (p+qq7 l)=R:=⟨_,rfl⟩;have iN:Hid (∀xs k,qe2 (l.drop 1)=some (xs,k)->R=rtV 4 p (p+(k+1):Nat) xs 0):=j3 λxs k h=>by rw[←hR,quot_ret h]
 have aD:Hid (qe2 (l.drop 1)=none->R=rtV 1 p 0 [] 0):=j3 λh=>by rw[←hR,quot_bad h]
 rw[hL,hR];have HL:=j3 rX;clear hR hL rX;go_enter func257,ntmps257
 go_wp2_with fail
 go_loop [5,6] (λo iv=>∃(i:Nat) (xs:List UInt8),p+1<=i/\i<=s.size/\o=.string (BS xs)/\iv=.int .i64 i/\xs.length<=i/\Hid (QAt l (i - p) xs)) (λ_ iv=>s.size - (intOf iv).toNat)
 case atStart=>exact⟨p+1,[],Nat.le_refl _,by omega,rfl,by go_num,Nat.zero_le _,j3 (by rw[Nat.add_sub_cancel_left];exact QAt.start l)⟩
 case round=>
  obtain⟨i,xs,vJ,hi,rfl,rfl,lK,Q⟩:=hrel
  by_cases A1:i<s.size
  ·obtain⟨hq,mU⟩:=q9 HX i A1 (by omega)
   by_cases hc:s[i]=39
   ·have cU:(s[i].toNat:Int)=39:=by rw[hc];rfl
    by_cases hn:∃h:i+1<s.size,s[i+1]=39
    ·obtain⟨h1,h2⟩:=hn
     obtain⟨iZ,qW⟩:=q9 HX (i+1) h1 (by omega);have FM:(s[i+1].toNat:Int)=39:=by rw[h2];rfl
     have Q2:Hid (QAt l (i+2 - p) (xs++[39])):=j3 (by
      have:=(q9 Q).two (by omega) (by omega) (by rw[mU];exact hc) (by
       have e:l[i - p+1]?=some s[i+1]:=by rw[show i - p+1=i+1 - p by omega,List.getElem?_eq_getElem iZ,qW]
       rw[(List.getElem?_eq_some_iff.1 e).2];exact h2)
      rwa [show i - p+2=i+2 - p by omega]at this)
     have O9:∀w:World,(Op.stringOp .add (BS xs) ⟨#[39]⟩).run prog w=.ok (.string (BS (xs++[39]))) w:=λw=>by
      rw[←qj5];exact run_string_add_sum (P:=prog) (w:=w) _ _ (by rw[qc1];show xs.length+1<=_;omega)
     have A7:(i:Int)+1<(s.size:Int):=by omega
     have B9:¬(i:Int)+1=(s.size:Int):=by omega
     clear Q mU hq qW iZ iN aD hc h2
     go_wp2_with fail
     go_round
     case rel=>exact⟨i+2,xs++[39],by omega,by omega,rfl,by go_num,by simp;omega,Q2⟩
     case measure=>simp[intOf];omega
    ·have R7:=(q9 Q).close (by omega) hq (by rw[mU];exact hc) (λh e=>hn ⟨by have:=q9 HL;omega,by
      obtain⟨iZ,qW⟩:=q9 HX (i+1) (by have:=q9 HL;omega) (by omega);rw[←qW];have e2:l[i - p+1]?=some l[i+1 - p]:=by rw[show i - p+1=i+1 - p by omega,List.getElem?_eq_getElem iZ]
      rw[←(List.getElem?_eq_some_iff.1 e2).2];exact e⟩)
     have hr:=q9 iN _ _ R7;rw[show p+(i - p+1)=i+1 by omega]at hr
     have xK:i+1=s.size\/∃h:i+1<s.size,¬(s[i+1].toNat:Int)=39:=by
      by_cases h:i+1<s.size
      ·right
       refine⟨h,λe=>hn ⟨h, ?_⟩⟩;apply UInt8.toNat_inj.1;show s[i+1].toNat=39;omega
      ·left;omega
     clear R7 Q mU hq iN aD hn hc;rcases xK with hw|⟨h,hw⟩
     ·have hw':(i:Int)+1=(s.size:Int):=by omega
      go_wp2_with fail
      refine bodyPost_ret (by simp[results,results257,go_sem]<;>rfl) rfl ⟨?_, ?_⟩
      all_goals go_light
      ·first|rfl|(rw[hr];rfl)
      ·repeat' (first|exact(Below.refl _ _).alloc (Nat.le_refl _) _|refine Below.setCell ?_ (by simp) _)
     ·have hw':¬(i:Int)+1=(s.size:Int):=by omega
      have gC:((s[i+1].toNat:Int) != 39)=true:=by simpa using hw
      have A7:(i:Int)+1<(s.size:Int):=by omega
      go_wp2_with fail
      refine bodyPost_ret (by simp[results,results257,go_sem]<;>rfl) rfl ⟨?_, ?_⟩
      all_goals go_light
      ·first|rfl|(rw[hr];rfl)
      ·repeat' (first|exact(Below.refl _ _).alloc (Nat.le_refl _) _|refine Below.setCell ?_ (by simp) _)
   ·have cU:¬(s[i].toNat:Int)=39:=λe=>hc (by apply UInt8.toNat_inj.1;show s[i].toNat=39;omega)
    have Q2:Hid (QAt l (i+1 - p) (xs++[s[i]])):=j3 (by
     have:=(q9 Q).one (by omega) hq (by rw[mU];exact hc)
     rwa [mU,show i - p+1=i+1 - p by omega]at this)
    have O9:∀w:World,(Op.stringOp .add (BS xs) (s.extract i (i+1))).run prog w=.ok (.string (BS (xs++[s[i]]))) w:=λw=>by
     rw[ext_one A1,←qj5];exact run_string_add_sum (P:=prog) (w:=w) _ _ (by rw[qc1,qc1];show xs.length+1<=_;omega)
    clear Q mU hq iN aD hc
    go_wp2_with fail
    go_round
    case rel=>exact⟨i+1,xs++[s[i]],by omega,by omega,rfl,by go_num,by simp;omega,Q2⟩
    case measure=>simp[intOf];omega
  ·obtain rfl:i=s.size:=by omega
   have hr:=q9 aD ((q9 Q).over (by have:=q9 HL;omega));clear Q iN aD
   go_wp2_with fail
   refine bodyPost_ret (by simp[results,results257,go_sem]<;>rfl) rfl ⟨?_, ?_⟩
   all_goals go_light
   ·first|rfl|(rw[hr];rfl)
   ·repeat' (first|exact(Below.refl _ _).alloc (Nat.le_refl _) _|refine Below.setCell ?_ (by simp) _)
def vq2(l:List UInt8):Prop:=l.take 2=[60,62]\/l.take 2=[60,61]\/l.take 2=[62,61]
def jp7:List UInt8:=[61,60,62,43,45,42,47,40,41,44]
theorem vi8{k:Int}{U:List UInt8}(h1:kwT k=U)(h2:16<=k)(a z:Nat):rTk (j7 k) a z=rtV 5 a z U 0:=by
 unfold rTk;rw[if_neg (show ¬(j7 k).kind=1 by show ¬k=1;omega)];have e1:rK (j7 k).kind=5:=by show rK k=5;unfold rK;rw[if_neg (by omega),if_neg (by omega)]
 have e2:rS (j7 k)=U:=by
  unfold rS;rw[if_neg (show ¬((j7 k).kind=2\/(j7 k).kind=4) by show ¬(k=2\/k=4);omega)];exact h1
 rw[e1,e2];rfl
theorem sign_pair{l:List UInt8}(h:vq2 l)(p:Nat):rTk (j7 (qn9 l)) p (p+qr3 l)=rtV 5 p (p+2:Nat) (l.take 2) 0:=by
 match l,h with
 | [],h=>simp[vq2]at h
 | [a],h=>simp[vq2]at h
 | a::b::t,h=>
  have h:[a,b]=[60,62]\/[a,b]=[60,61]\/[a,b]=[62,61]:=h;rcases h with h|h|h
  ·injection h with h1 h2
   injection h2 with h2 _;subst h1 h2;exact vi8 (k:=17) rfl (by decide) p _
  ·injection h with h1 h2
   injection h2 with h2 _;subst h1 h2;exact vi8 (k:=19) rfl (by decide) p _
  ·injection h with h1 h2
   injection h2 with h2 _;subst h1 h2;exact vi8 (k:=21) rfl (by decide) p _
theorem jc5{a:UInt8}{t:List UInt8}(h:¬vq2 (a::t)):qr3 (a::t)=1:=by
 cases t with
 | nil=>rfl
 | cons b t=>
  have h:¬([a,b]=[60,62]\/[a,b]=[60,61]\/[a,b]=[62,61]):=h;unfold qr3;simp only;rw[if_neg];intro e;apply h;simp only[Bool.or_eq_true,Bool.and_eq_true,beq_iff_eq]at e;rcases e with⟨rfl,rfl⟩|⟨rfl|rfl,rfl⟩
  ·exact .inl rfl
  ·exact .inr (.inl rfl)
  ·exact .inr (.inr rfl)
theorem jc6{a:UInt8}{t:List UInt8}(h:¬vq2 (a::t)):qn9 (a::t)=vv6 [a]:=by
 unfold qn9;rw[if_neg (λe=>h (.inl (by simpa using e))),jc5 h];rfl
theorem sign_one{a:UInt8}{t:List UInt8}(h:¬vq2 (a::t))(ha:a∈jp7)(p:Nat):rTk (j7 (qn9 (a::t))) p (p+qr3 (a::t))=rtV 5 p (p+1:Nat) [a] 0:=by
 rw[jc6 h,jc5 h];unfold jp7 at ha;simp only[List.mem_cons,List.not_mem_nil,or_false]at ha;rcases ha with rfl|rfl|rfl|rfl|rfl|rfl|rfl|rfl|rfl|rfl<;>exact vi8 rfl (by decide) p _
theorem sign_none{a:UInt8}{t:List UInt8}(h:¬vq2 (a::t))(ha:a∉jp7)(p:Nat):rTk (j7 (qn9 (a::t))) p (p+qr3 (a::t))=rtV 1 p 0 [] 0:=by
 rw[jc6 h];unfold jp7 at ha;simp only[List.mem_cons,List.not_mem_nil,or_false,not_or]at ha
 have:vv6 [a]=1:=by
  unfold vv6;simp[ha]
 rw[this,jn5]
theorem rsign_any(s:ByteArray)(hs:s.size<=200)(p:Nat)(hp:p<s.size)(w:World):
  Calls prog 258 #[.string s,.int .i64 p] w λe w'=>e=.returned (rTk (j7 (qn9 (s.data.toList.drop p))) p (p+qr3 (s.data.toList.drop p)))/\Below w.heap.size w w':=by
 have hl:=qa5 s
 have hd:s.data.toList.drop p=s[p]::s.data.toList.drop (p+1):=by
  rw[List.drop_eq_getElem_cons (by rw[qa5];exact hp),qb2 s p hp]
 have hx:(s.extract p (p+2)).data.toList=(s.data.toList.drop p).take 2:=by rw[Lib.extract_data];simp
 obtain⟨R,hR⟩:∃R,rTk (j7 (qn9 (s.data.toList.drop p))) p (p+qr3 (s.data.toList.drop p))=R:=⟨_,rfl⟩;rw[hR];obtain⟨T,hT⟩:∃T,s.extract p (p+2)=T:=⟨_,rfl⟩;rw[hT]at hx;have A7:(p:Int)+2<=(s.size:Int)\/¬(p:Int)+2<=(s.size:Int):=by omega
 by_cases fM:vq2 (s.data.toList.drop p)
 ·have h2:p+2<=s.size:=by
   have:((s.data.toList.drop p).take 2).length=2:=by rcases fM with h|h|h<;>rw[h]<;>rfl
   rw[List.length_take,List.length_drop,qa5]at this;omega
  have OD:(p:Int)+2<=(s.size:Int):=by omega
  have hr:=sign_pair fM p;rw[hR,←hx]at hr;have FV:T.toList=(s.data.toList.drop p).take 2:=by rw[Lib.toList_data,hx]
  unfold vq2 at fM;rw[←FV]at fM;clear hd hx hR FV A7;rcases fM with h|h|h
  all_goals
   go_enter func258,ntmps258
   go_wp2_with fail
   refine bodyPost_ret (by simp[results,results258,go_sem]<;>rfl) rfl ⟨?_, ?_⟩
   all_goals go_light
   ·first|rfl|(rw[hr];rfl)
   ·repeat' (first|exact(Below.refl _ _).alloc (Nat.le_refl _) _|refine Below.setCell ?_ (by simp) _)
 ·have iW:s.extract p (p+1)=BS [s[p]]:=ext_one hp
  rw[hd]at fM
  have ht:∀x:List UInt8,(x=[60,62]\/x=[60,61]\/x=[62,61])->(T.toList==x)=false:=λx M8=>by
   rw[Lib.toList_data,hx,hd];refine beq_eq_false_iff_ne.2 λe=>fM ?_
   unfold vq2;rw[e];exact M8
  have t1:=ht [60,62] (.inl rfl);have t2:=ht [60,61] (.inr (.inl rfl));have t3:=ht [62,61] (.inr (.inr rfl))
  by_cases ha:s[p]∈jp7
  ·have AP:=sign_one fM ha p
   rw[←hd,hR]at AP;obtain⟨S,hS⟩:∃S,s.extract p (p+1)=S:=⟨_,rfl⟩;have hr:R=.agg #[.int .i64 5,.int .i64 p,.int .i64 ((p:Int)+1),.string S,.int .i64 0]:=by rw[AP,←hS,iW];rfl
   have hc:(s[p].toNat:Int)=61\/(s[p].toNat:Int)=60\/(s[p].toNat:Int)=62\/(s[p].toNat:Int)=43\/(s[p].toNat:Int)=45\/(s[p].toNat:Int)=42\/(s[p].toNat:Int)=47\/(s[p].toNat:Int)=40\/(s[p].toNat:Int)=41\/(s[p].toNat:Int)=44:=by
    unfold jp7 at ha;simp only[List.mem_cons,List.not_mem_nil,or_false]at ha;rcases ha with h|h|h|h|h|h|h|h|h|h<;>rw[h]<;>decide
   have HR:=j3 hr;clear hd hx hR ht fM ha iW hr AP;rcases A7 with hb|hb<;>rcases hc with hc|hc|hc|hc|hc|hc|hc|hc|hc|hc
   all_goals
    go_enter func258,ntmps258
    go_wp2_with fail
    refine bodyPost_ret (by simp[results,results258,go_sem]<;>rfl) rfl ⟨?_, ?_⟩
    all_goals go_light
    ·rw[q9 HR]
    ·repeat' (first|exact(Below.refl _ _).alloc (Nat.le_refl _) _|refine Below.setCell ?_ (by simp) _)
  ·have hr:=sign_none fM ha p
   rw[←hd,hR]at hr
   have hn:∀x∈jp7,((s[p].toNat:Int)==(x.toNat:Int))=false:=λx M8=>beq_eq_false_iff_ne.2 λe=>ha (by
    have:s[p]=x:=UInt8.toNat_inj.1 (by omega)
    rw[this];exact M8)
   have n1:((s[p].toNat:Int)==61)=false:=hn 61 (by decide);have n2:((s[p].toNat:Int)==60)=false:=hn 60 (by decide);have n3:((s[p].toNat:Int)==62)=false:=hn 62 (by decide);have n4:((s[p].toNat:Int)==43)=false:=hn 43 (by decide);have n5:((s[p].toNat:Int)==45)=false:=hn 45 (by decide);have n6:((s[p].toNat:Int)==42)=false:=hn 42 (by decide);have n7:((s[p].toNat:Int)==47)=false:=hn 47 (by decide);have n8:((s[p].toNat:Int)==40)=false:=hn 40 (by decide);have n9:((s[p].toNat:Int)==41)=false:=hn 41 (by decide);have n0:((s[p].toNat:Int)==44)=false:=hn 44 (by decide);clear hd hx hR ht fM ha iW hn;rcases A7 with hb|hb
   all_goals
    go_enter func258,ntmps258
    go_wp2_with fail
    refine bodyPost_ret (by simp[results,results258,go_sem]<;>rfl) rfl ⟨?_, ?_⟩
    all_goals go_light
    ·first|rfl|(rw[hr];rfl)
    ·repeat' (first|exact(Below.refl _ _).alloc (Nat.le_refl _) _|refine Below.setCell ?_ (by simp) _)
theorem vi7(t:Tk)(a z:Nat):∃k a' z' S n,rTk t a z=.agg #[.int .i64 k,.int .i64 a',.int .i64 z',.string S,.int .i64 n]:=by
 unfold rTk
 split<;>exact⟨_,_,_,_,_,rfl⟩
theorem rTk_end(a z:Nat):rTk (j7 0) a z=.agg #[.int .i64 0,.int .i64 a,.int .i64 z,.string ⟨#[]⟩,.int .i64 0]:=by
 simp[rTk,rK,rS,kwT,j7,rtV];rfl
theorem rnext_any(s:ByteArray)(hs:s.size<=200)(p:Nat)(hp:p<=s.size)(w:World):
  Calls prog 213 #[.string s,.int .i64 p] w λe w'=>e=.returned (rTk (qc0 s.data.toList p) (qc2 s.data.toList p) (qd5 s.data.toList p))/\Below w.heap.size w w':=by
 have hl:=qa5 s;obtain⟨z,hz⟩:∃z,qc2 s.data.toList p=z:=⟨_,rfl⟩;have I8:z=qa3 spU (s.data.toList.drop p)+p:=by rw[←hz];unfold qc2;omega
 obtain⟨R,hR⟩:∃R,rTk (qc0 s.data.toList p) (qc2 s.data.toList p) (qd5 s.data.toList p)=R:=⟨_,rfl⟩
 have wO:Hid (z=s.size->R=.agg #[.int .i64 0,.int .i64 s.size,.int .i64 s.size,.string ⟨#[]⟩,.int .i64 0]):=j3 λh=>by
  rw[←hR];unfold qc0 qd5;rw[hz,if_neg (by omega),if_neg (by omega),hl,h];exact rTk_end _ _
 have aD:Hid (z<s.size->R=rTk (qd6 (s.data.toList.drop z)) z (z+qq4 (s.data.toList.drop z))):=j3 λh=>by
  rw[←hR];unfold qc0 qd5;rw[hz,if_pos (by omega),if_pos (by omega)]
 rw[hR];have HZ:=j3 I8;clear hR hz I8;go_enter func213,ntmps213
 go_wp2_with fail
 go_loop [1] (λi=>∃k:Nat,p<=k/\k<=s.size/\i=.int .i64 k/\Hid (z=qa3 spU (s.data.toList.drop k)+k)) (λi=>s.size - (intOf i).toNat)
 case atStart=>exact⟨p,Nat.le_refl _,hp,rfl,HZ⟩
 case round=>
  obtain⟨k,lR,hk,rfl,hr⟩:=hrel
  by_cases Z1:∃A1:k<s.size,spU s[k]=true
  ·obtain⟨A1,hg⟩:=Z1
   have A5:=qe9 spU s.data.toList k (by omega) hg;have HR:Hid (z=qa3 spU (s.data.toList.drop (k+1))+(k+1)):=j3 (by rw[q9 hr,A5];omega)
   have hc:(s[k].toNat:Int)=32\/(s[k].toNat:Int)=9\/(s[k].toNat:Int)=10:=by
    unfold spU spB at hg;simpa [or_assoc]using hg
   clear A5 hr hg wO aD;rcases hc with hc|hc|hc
   all_goals
    go_wp2_with fail
    go_round
    case rel=>exact⟨k+1,by omega,by omega,by go_num,HR⟩
    case measure=>simp[intOf];omega
  ·have iV:z=k:=by
    by_cases A1:k<s.size
    ·have hg:spU s[k]=false:=by cases hg:spU s[k] with|false=>rfl|true=>exact absurd ⟨A1,hg⟩ Z1
     have:=qf9 spU s.data.toList k (by omega) hg;rw[q9 hr,this];omega
    ·have:=qh0 spU s.data.toList k (by omega)
     rw[q9 hr,this];omega
   by_cases A1:k<s.size
   ·have aT:=q9 aD (by omega)
    rw[iV]at aT;have hg:spU s[k]=false:=by cases hg:spU s[k] with|false=>rfl|true=>exact absurd ⟨A1,hg⟩ Z1
    have hn:((s[k].toNat:Int)==32)=false/\((s[k].toNat:Int)==9)=false/\((s[k].toNat:Int)==10)=false:=by
     unfold spU spB at hg;simpa [and_assoc]using hg
    obtain⟨n1,n2,n3⟩:=hn;have C1:((k:Int)==(s.size:Int))=false:=beq_eq_false_iff_ne.2 (by omega)
    have hd:s.data.toList.drop k=s[k]::s.data.toList.drop (k+1):=by
     rw[List.drop_eq_getElem_cons (by rw[qa5];exact A1),qb2 s k A1]
    have F7:qd6 (s.data.toList.drop k)=if qs3 s[k] then qh4 (s.data.toList.drop k) else if qh3 s[k] then qp5 (s.data.toList.drop k) else if s[k]==39 then qf5 (s.data.toList.drop k) else j7 (qn9 (s.data.toList.drop k)):=by rw[hd];rfl
    have H8:qq4 (s.data.toList.drop k)=if qs3 s[k] then qa8 (s.data.toList.drop k) else if qh3 s[k] then qa3 qh3 (s.data.toList.drop k) else if s[k]==39 then qq7 (s.data.toList.drop k) else qr3 (s.data.toList.drop k):=by rw[hd];rfl
    rw[F7,H8]at aT;clear F7 H8 hd hg Z1 hr wO aD HZ
    cases hb:qs3 s[k] with
    | true=>
     rw[hb,if_pos rfl,if_pos rfl]at aT;obtain⟨q1,q2,q3,q4,q5,hq⟩:=vi7 (qh4 (s.data.toList.drop k)) k (k+qa8 (s.data.toList.drop k));have W:=rword_any s hs k A1 hb;rw[hq]at aT W;have HW:=j3 W;have Hb:=j3 hb
     cases V8:qh3 s[k] with
     | true=>exact absurd V8 (by unfold qh3 ve3;unfold qs3 vg6 at hb;simp at hb ⊢;omega)
     | false=>
     have Hd:=j3 V8;clear W hb V8 hq
     go_wp2_with(first|(go_at_call 181;refine(qh7 _ _).mono ?_;rintro e w'⟨rfl,rfl⟩;rw[show vg6 (s[k].toNat:Int)=true from q9 Hb])|(go_at_call 230;refine(qk5 _ _).mono ?_;rintro e w'⟨rfl,rfl⟩;rw[show ve3 (s[k].toNat:Int)=false from q9 Hd])|(go_at_call 182;refine(q9 HW _).mono ?_;rintro e w1⟨rfl,A7⟩;obtain⟨hc,hf⟩:=qb0 A7;have C8:=A7.size;have B1:=j3 A7;clear A7;have c0:w1.cell? ⟨w.heap.size,0,none⟩=some (.int .i64 0):=(hc _ 0 (by simp)).trans (by simp);have c1:w1.cell? ⟨w.heap.size,1,none⟩=some (.int .i64 0):=(hc _ 1 (by simp)).trans (by simp);have c2:w1.cell? ⟨w.heap.size,2,none⟩=some (.int .i64 0):=(hc _ 2 (by simp)).trans (by simp);have c3:w1.cell? ⟨w.heap.size,3,none⟩=some (.string ⟨#[]⟩):=(hc _ 3 (by simp)).trans (by simp);have c4:w1.cell? ⟨w.heap.size,4,none⟩=some (.int .i64 0):=(hc _ 4 (by simp)).trans (by simp)))
     refine bodyPost_ret (by simp[results,results213,go_sem,c0,c1,c2,c3,c4]<;>rfl) rfl ⟨?_, ?_⟩
     all_goals go_light
     ·first|rfl|(rw[aT])
     ·repeat' (first|exact qc8 (q9 B1)|refine Below.setCell ?_ (by simp) _)
    | false=>
     simp only[hb,Bool.false_eq_true,if_false]at aT;have Hb:=j3 hb
     cases V8:qh3 s[k] with
     | true=>
      simp only[V8,if_true]at aT;obtain⟨q1,q2,q3,q4,q5,hq⟩:=vi7 (qp5 (s.data.toList.drop k)) k (k+qa3 qh3 (s.data.toList.drop k));have W:=jp1 s hs k A1;rw[hq]at aT W;have HW:=j3 W;have Hd:=j3 V8;clear W hb V8 hq
      go_wp2_with(first|(go_at_call 181;refine(qh7 _ _).mono ?_;rintro e w'⟨rfl,rfl⟩;rw[show vg6 (s[k].toNat:Int)=false from q9 Hb])|(go_at_call 230;refine(qk5 _ _).mono ?_;rintro e w'⟨rfl,rfl⟩;rw[show ve3 (s[k].toNat:Int)=true from q9 Hd])|(go_at_call 256;refine(q9 HW _).mono ?_;rintro e w1⟨rfl,A7⟩;obtain⟨hc,hf⟩:=qb0 A7;have C8:=A7.size;have B1:=j3 A7;clear A7;have c0:w1.cell? ⟨w.heap.size,0,none⟩=some (.int .i64 0):=(hc _ 0 (by simp)).trans (by simp);have c1:w1.cell? ⟨w.heap.size,1,none⟩=some (.int .i64 0):=(hc _ 1 (by simp)).trans (by simp);have c2:w1.cell? ⟨w.heap.size,2,none⟩=some (.int .i64 0):=(hc _ 2 (by simp)).trans (by simp);have c3:w1.cell? ⟨w.heap.size,3,none⟩=some (.string ⟨#[]⟩):=(hc _ 3 (by simp)).trans (by simp);have c4:w1.cell? ⟨w.heap.size,4,none⟩=some (.int .i64 0):=(hc _ 4 (by simp)).trans (by simp)))
      refine bodyPost_ret (by simp[results,results213,go_sem,c0,c1,c2,c3,c4]<;>rfl) rfl ⟨?_, ?_⟩
      all_goals go_light
      ·first|rfl|(rw[aT])
      ·repeat' (first|exact qc8 (q9 B1)|refine Below.setCell ?_ (by simp) _)
     | false=>
      simp only[V8,Bool.false_eq_true,if_false]at aT;have Hd:=j3 V8
      by_cases h39:s[k]=39
      ·have tQ:(s[k]==39)=true:=by rw[h39];rfl
       simp only[tQ,if_true]at aT;obtain⟨q1,q2,q3,q4,q5,hq⟩:=vi7 (qf5 (s.data.toList.drop k)) k (k+qq7 (s.data.toList.drop k));have W:=rtext_any s hs k A1;rw[hq]at aT W;have HW:=j3 W;have BL:Hid (((s[k].toNat:Int)==39)=true):=j3 (by rw[h39];decide);clear W hb V8 hq h39 tQ
       go_wp2_with(first|(go_at_call 181;refine(qh7 _ _).mono ?_;rintro e w'⟨rfl,rfl⟩;rw[show vg6 (s[k].toNat:Int)=false from q9 Hb])|(go_at_call 230;refine(qk5 _ _).mono ?_;rintro e w'⟨rfl,rfl⟩;rw[show ve3 (s[k].toNat:Int)=false from q9 Hd];have LJ:=q9 BL)|(go_at_call 257;refine(q9 HW _).mono ?_;rintro e w1⟨rfl,A7⟩;obtain⟨hc,hf⟩:=qb0 A7;have C8:=A7.size;have B1:=j3 A7;clear A7;have c0:w1.cell? ⟨w.heap.size,0,none⟩=some (.int .i64 0):=(hc _ 0 (by simp)).trans (by simp);have c1:w1.cell? ⟨w.heap.size,1,none⟩=some (.int .i64 0):=(hc _ 1 (by simp)).trans (by simp);have c2:w1.cell? ⟨w.heap.size,2,none⟩=some (.int .i64 0):=(hc _ 2 (by simp)).trans (by simp);have c3:w1.cell? ⟨w.heap.size,3,none⟩=some (.string ⟨#[]⟩):=(hc _ 3 (by simp)).trans (by simp);have c4:w1.cell? ⟨w.heap.size,4,none⟩=some (.int .i64 0):=(hc _ 4 (by simp)).trans (by simp)))
       refine bodyPost_ret (by simp[results,results213,go_sem,c0,c1,c2,c3,c4]<;>rfl) rfl ⟨?_, ?_⟩
       all_goals go_light
       ·first|rfl|(rw[aT])
       ·repeat' (first|exact qc8 (q9 B1)|refine Below.setCell ?_ (by simp) _)
      ·have tQ:(s[k]==39)=false:=by simpa using h39
       simp only[tQ,Bool.false_eq_true,if_false]at aT;obtain⟨q1,q2,q3,q4,q5,hq⟩:=vi7 (j7 (qn9 (s.data.toList.drop k))) k (k+qr3 (s.data.toList.drop k));have W:=rsign_any s hs k A1;rw[hq]at aT W;have HW:=j3 W;have BL:Hid (((s[k].toNat:Int)==39)=false):=j3 (beq_eq_false_iff_ne.2 λe=>h39 (UInt8.toNat_inj.1 (by show s[k].toNat=39;omega)));clear W hb V8 hq h39 tQ
       go_wp2_with(first|(go_at_call 181;refine(qh7 _ _).mono ?_;rintro e w'⟨rfl,rfl⟩;rw[show vg6 (s[k].toNat:Int)=false from q9 Hb])|(go_at_call 230;refine(qk5 _ _).mono ?_;rintro e w'⟨rfl,rfl⟩;rw[show ve3 (s[k].toNat:Int)=false from q9 Hd];have LJ:=q9 BL)|(go_at_call 258;refine(q9 HW _).mono ?_;rintro e w1⟨rfl,A7⟩;obtain⟨hc,hf⟩:=qb0 A7;have C8:=A7.size;have B1:=j3 A7;clear A7;have c0:w1.cell? ⟨w.heap.size,0,none⟩=some (.int .i64 0):=(hc _ 0 (by simp)).trans (by simp);have c1:w1.cell? ⟨w.heap.size,1,none⟩=some (.int .i64 0):=(hc _ 1 (by simp)).trans (by simp);have c2:w1.cell? ⟨w.heap.size,2,none⟩=some (.int .i64 0):=(hc _ 2 (by simp)).trans (by simp);have c3:w1.cell? ⟨w.heap.size,3,none⟩=some (.string ⟨#[]⟩):=(hc _ 3 (by simp)).trans (by simp);have c4:w1.cell? ⟨w.heap.size,4,none⟩=some (.int .i64 0):=(hc _ 4 (by simp)).trans (by simp)))
       refine bodyPost_ret (by simp[results,results213,go_sem,c0,c1,c2,c3,c4]<;>rfl) rfl ⟨?_, ?_⟩
       all_goals go_light
       ·first|rfl|(rw[aT])
       ·repeat' (first|exact qc8 (q9 B1)|refine Below.setCell ?_ (by simp) _)
   ·have yL:k=s.size:=by omega
    have aT:=q9 wO (by omega);clear hr Z1 wO aD HZ;subst yL
    go_wp2_with fail
    refine bodyPost_ret (by simp[results,results213,go_sem]<;>rfl) rfl ⟨?_, ?_⟩
    all_goals go_light
    ·first|rfl|(rw[aT])
    ·repeat' (first|exact(Below.refl _ _).alloc (Nat.le_refl _) _|refine Below.setCell ?_ (by simp) _)
end Go.Proofs.YtfkcaldjphakpaaGreatDoor
