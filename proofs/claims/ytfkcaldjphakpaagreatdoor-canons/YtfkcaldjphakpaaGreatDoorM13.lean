/- The document's answer: a text's token. The document's answer: a sign's token. -/
import Derived.Test.YtfkcaldjphakpaaGreatDoorM12
namespace Go.Proofs.YtfkcaldjphakpaaGreatDoor
open Go.RowKit
section
theorem rTk_text (S:List UInt8) (a z:Nat):rTk ⟨4,0,S⟩ a z=rtV 4 a z S 0:=by simp [rTk,rK,rS]
theorem ext_one {s:ByteArray} {i:Nat} (h:i<s.size):s.extract i (i+1)=BS [s[i]]:=by
 have e:(s.extract i (i+1)).data.toList=[s[i]]:=by
  rw [Lib.extract_data]
  have:(s.data.toList.drop i).take (i+1 - i)=[s[i]]:=by
   rw [Nat.add_sub_cancel_left,List.drop_eq_getElem_cons (by rw [qa5];exact h),qb3 s i h]
   rfl
  simpa using this
 rw [←BS_of (s.extract i (i+1)),e]
theorem quot_ret {l:List UInt8} {xs:List UInt8} {k:Nat} (h:qi5 (l.drop 1)=some (xs,k)) (p:Nat):rTk (qj4 l) p (p+qu7 l)=rtV 4 p (p+(k+1):Nat) xs 0:=by
 obtain ⟨h1,h2⟩:=qs5 h
 rw [h1,h2,rTk_text]
theorem quot_bad {l:List UInt8} (h:qi5 (l.drop 1)=none) (p:Nat):rTk (qj4 l) p (p+qu7 l)=rtV 1 p 0 [] 0:=by
 rw [(vg8 h).1,jb1]
set_option maxHeartbeats 4000000 in
theorem rtext_any (s:ByteArray) (hs:s.size≤200) (p:Nat) (hp:p<s.size) (w:World) :
  Calls Tryz.prog 257 #[.string s,.int .i64 p] w fun e w'=>e=.returned (rTk (qj4 (s.data.toList.drop p)) p (p+qu7 (s.data.toList.drop p)))∧Below w.heap.size w w':=by
 have hl:=qa5 s
 obtain ⟨l,hL⟩:∃l,s.data.toList.drop p=l:=⟨_,rfl⟩
 have hll:l.length=s.size - p:=by rw [←hL,List.length_drop,qa5]
 have HX:Hid (∀i (h:i<s.size),p≤i→∃h':i - p<l.length,l[i - p]=s[i]):=j4 (by
  intro i h hpi
  refine ⟨by omega, ?_⟩
  have e:l[i - p]?=some s[i]:=by
   rw [←hL,List.getElem?_drop,show p+(i - p)=i by omega,List.getElem?_eq_getElem (by rw [qa5];exact h),qb3 s i h]
  exact (List.getElem?_eq_some_iff.1 e).2)
 obtain ⟨R,hR⟩:∃R,rTk (qj4 l) p (p+qu7 l)=R:=⟨_,rfl⟩
 have HRT:Hid (∀xs k,qi5 (l.drop 1)=some (xs,k)→R=rtV 4 p (p+(k+1):Nat) xs 0):=j4 fun xs k h=>by rw [←hR,quot_ret h]
 have HRF:Hid (qi5 (l.drop 1)=none→R=rtV 1 p 0 [] 0):=j4 fun h=>by rw [←hR,quot_bad h]
 rw [hL,hR]
 have HL:=j4 hll
 clear hR hL hll
 go_enter Tryz.func257,Tryz.ntmps257
 go_wp2_with fail
 go_loop [5,6] (fun o iv=>∃(i:Nat) (xs:List UInt8),p+1≤i∧i≤s.size∧o=.string (BS xs)∧iv=.int .i64 i∧xs.length≤i∧Hid (QAt l (i - p) xs)) (fun _ iv=>s.size - (intOf iv).toNat)
 case atStart=>exact ⟨p+1,[],Nat.le_refl _,by omega,rfl,by go_num,Nat.zero_le _,j4 (by rw [Nat.add_sub_cancel_left];exact QAt.start l)⟩
 case round=>
  obtain ⟨i,xs,hpi,hi,rfl,rfl,hxl,Q⟩:=hrel
  by_cases hlt:i<s.size
  ·obtain ⟨hq,hxi⟩:=q9 HX i hlt (by omega)
   by_cases hc:s[i]=39
   ·have hc':(s[i].toNat:Int)=39:=by rw [hc];rfl
    by_cases hn:∃h:i+1<s.size,s[i+1]=39
    ·obtain ⟨h1,h2⟩:=hn
     obtain ⟨hq2,hx2⟩:=q9 HX (i+1) h1 (by omega)
     have hd':(s[i+1].toNat:Int)=39:=by rw [h2];rfl
     have Q2:Hid (QAt l (i+2 - p) (xs++[39])):=j4 (by
      have:=(q9 Q).two (by omega) (by omega) (by rw [hxi];exact hc) (by
       have e:l[i - p+1]?=some s[i+1]:=by rw [show i - p+1=i+1 - p by omega,List.getElem?_eq_getElem hq2,hx2]
       rw [(List.getElem?_eq_some_iff.1 e).2];exact h2)
      rwa [show i - p+2=i+2 - p by omega] at this)
     have hadd:∀w:World,(Op.stringOp .add (BS xs) ⟨#[39]⟩).run Tryz.prog w=.ok (.string (BS (xs++[39]))) w:=fun w=>by
      rw [←qk1]
      exact run_string_add_sum (P:=Tryz.prog) (w:=w) _ _ (by rw [qc4];show xs.length+1≤_;omega)
     have hb1:(i:Int)+1<(s.size:Int):=by omega
     have hb2:¬(i:Int)+1=(s.size:Int):=by omega
     clear Q hxi hq hx2 hq2 HRT HRF hc h2
     go_wp2_with fail
     go_round
     case rel=>exact ⟨i+2,xs++[39],by omega,by omega,rfl,by go_num,by simp;omega,Q2⟩
     case measure=>simp [intOf];omega
    ·have hcl:=(q9 Q).close (by omega) hq (by rw [hxi];exact hc) (fun h e=>hn ⟨by have:=q9 HL;omega,by
      obtain ⟨hq2,hx2⟩:=q9 HX (i+1) (by have:=q9 HL;omega) (by omega)
      rw [←hx2]
      have e2:l[i - p+1]?=some l[i+1 - p]:=by rw [show i - p+1=i+1 - p by omega,List.getElem?_eq_getElem hq2]
      rw [←(List.getElem?_eq_some_iff.1 e2).2];exact e⟩)
     have hr:=q9 HRT _ _ hcl
     rw [show p+(i - p+1)=i+1 by omega] at hr
     have hway:i+1=s.size∨∃h:i+1<s.size,¬(s[i+1].toNat:Int)=39:=by
      by_cases h:i+1<s.size
      ·right
       refine ⟨h,fun e=>hn ⟨h, ?_⟩⟩
       apply UInt8.toNat_inj.1
       show s[i+1].toNat=39
       omega
      ·left;omega
     clear hcl Q hxi hq HRT HRF hn hc
     rcases hway with hw|⟨h,hw⟩
     ·have hw':(i:Int)+1=(s.size:Int):=by omega
      go_wp2_with fail
      refine bodyPost_ret (by simp [results,Tryz.results257,go_sem]<;>rfl) rfl ⟨?_, ?_⟩
      all_goals go_light
      ·first|rfl|(rw [hr];rfl)
      ·repeat' (first|exact (Below.refl _ _).alloc (Nat.le_refl _) _|refine Below.setCell ?_ (by simp) _)
     ·have hw':¬(i:Int)+1=(s.size:Int):=by omega
      have hw2:((s[i+1].toNat:Int) != 39)=true:=by simpa using hw
      have hb1:(i:Int)+1<(s.size:Int):=by omega
      go_wp2_with fail
      refine bodyPost_ret (by simp [results,Tryz.results257,go_sem]<;>rfl) rfl ⟨?_, ?_⟩
      all_goals go_light
      ·first|rfl|(rw [hr];rfl)
      ·repeat' (first|exact (Below.refl _ _).alloc (Nat.le_refl _) _|refine Below.setCell ?_ (by simp) _)
   ·have hc':¬(s[i].toNat:Int)=39:=fun e=>hc (by apply UInt8.toNat_inj.1;show s[i].toNat=39;omega)
    have Q2:Hid (QAt l (i+1 - p) (xs++[s[i]])):=j4 (by
     have:=(q9 Q).one (by omega) hq (by rw [hxi];exact hc)
     rwa [hxi,show i - p+1=i+1 - p by omega] at this)
    have hadd:∀w:World,(Op.stringOp .add (BS xs) (s.extract i (i+1))).run Tryz.prog w=.ok (.string (BS (xs++[s[i]]))) w:=fun w=>by
     rw [ext_one hlt,←qk1]
     exact run_string_add_sum (P:=Tryz.prog) (w:=w) _ _ (by rw [qc4,qc4];show xs.length+1≤_;omega)
    clear Q hxi hq HRT HRF hc
    go_wp2_with fail
    go_round
    case rel=>exact ⟨i+1,xs++[s[i]],by omega,by omega,rfl,by go_num,by simp;omega,Q2⟩
    case measure=>simp [intOf];omega
  ·obtain rfl:i=s.size:=by omega
   have hr:=q9 HRF ((q9 Q).over (by have:=q9 HL;omega))
   clear Q HRT HRF
   go_wp2_with fail
   refine bodyPost_ret (by simp [results,Tryz.results257,go_sem]<;>rfl) rfl ⟨?_, ?_⟩
   all_goals go_light
   ·first|rfl|(rw [hr];rfl)
   ·repeat' (first|exact (Below.refl _ _).alloc (Nat.le_refl _) _|refine Below.setCell ?_ (by simp) _)
end
section
def vi0 (l:List UInt8):Prop:=l.take 2=[60,62]∨l.take 2=[60,61]∨l.take 2=[62,61]
def jc7:List UInt8:=[61,60,62,43,45,42,47,40,41,44]
theorem ve1 {k:Int} {U:List UInt8} (h1:kwT k=U) (h2:16≤k) (a z:Nat):rTk (qa2 k) a z=rtV 5 a z U 0:=by
 unfold rTk
 rw [if_neg (show ¬(qa2 k).kind=1 by show ¬k=1;omega)]
 have e1:rK (qa2 k).kind=5:=by show rK k=5;unfold rK;rw [if_neg (by omega),if_neg (by omega)]
 have e2:rS (qa2 k)=U:=by
  unfold rS
  rw [if_neg (show ¬((qa2 k).kind=2∨(qa2 k).kind=4) by show ¬(k=2∨k=4);omega)]
  exact h1
 rw [e1,e2]
 rfl
theorem sign_pair {l:List UInt8} (h:vi0 l) (p:Nat):rTk (qa2 (qr3 l)) p (p+qt9 l)=rtV 5 p (p+2:Nat) (l.take 2) 0:=by
 match l,h with
 | [],h=>simp [vi0] at h
 | [a],h=>simp [vi0] at h
 | a::b::t,h=>
  have h:[a,b]=[60,62]∨[a,b]=[60,61]∨[a,b]=[62,61]:=h
  rcases h with h|h|h
  ·injection h with h1 h2
   injection h2 with h2 _
   subst h1 h2
   exact ve1 (k:=17) rfl (by decide) p _
  ·injection h with h1 h2
   injection h2 with h2 _
   subst h1 h2
   exact ve1 (k:=19) rfl (by decide) p _
  ·injection h with h1 h2
   injection h2 with h2 _
   subst h1 h2
   exact ve1 (k:=21) rfl (by decide) p _
theorem vs9 {a:UInt8} {t:List UInt8} (h:¬vi0 (a::t)):qt9 (a::t)=1:=by
 cases t with
 | nil=>rfl
 | cons b t=>
  have h:¬([a,b]=[60,62]∨[a,b]=[60,61]∨[a,b]=[62,61]):=h
  unfold qt9
  simp only
  rw [if_neg]
  intro e
  apply h
  simp only [Bool.or_eq_true,Bool.and_eq_true,beq_iff_eq] at e
  rcases e with ⟨rfl,rfl⟩|⟨rfl|rfl,rfl⟩
  ·exact .inl rfl
  ·exact .inr (.inl rfl)
  ·exact .inr (.inr rfl)
theorem vt0 {a:UInt8} {t:List UInt8} (h:¬vi0 (a::t)):qr3 (a::t)=vm8 [a]:=by
 unfold qr3
 rw [if_neg (fun e=>h (.inl (by simpa using e))),vs9 h]
 rfl
theorem sign_one {a:UInt8} {t:List UInt8} (h:¬vi0 (a::t)) (ha:a∈jc7) (p:Nat):rTk (qa2 (qr3 (a::t))) p (p+qt9 (a::t))=rtV 5 p (p+1:Nat) [a] 0:=by
 rw [vt0 h,vs9 h]
 unfold jc7 at ha
 simp only [List.mem_cons,List.not_mem_nil,or_false] at ha
 rcases ha with rfl|rfl|rfl|rfl|rfl|rfl|rfl|rfl|rfl|rfl<;>exact ve1 rfl (by decide) p _
theorem sign_none {a:UInt8} {t:List UInt8} (h:¬vi0 (a::t)) (ha:a∉jc7) (p:Nat):rTk (qa2 (qr3 (a::t))) p (p+qt9 (a::t))=rtV 1 p 0 [] 0:=by
 rw [vt0 h]
 unfold jc7 at ha
 simp only [List.mem_cons,List.not_mem_nil,or_false,not_or] at ha
 have:vm8 [a]=1:=by
  unfold vm8
  simp [ha]
 rw [this,jb1]
set_option maxHeartbeats 8000000 in
theorem rsign_any (s:ByteArray) (hs:s.size≤200) (p:Nat) (hp:p<s.size) (w:World) :
  Calls Tryz.prog 258 #[.string s,.int .i64 p] w fun e w'=>e=.returned (rTk (qa2 (qr3 (s.data.toList.drop p))) p (p+qt9 (s.data.toList.drop p)))∧Below w.heap.size w w':=by
 have hl:=qa5 s
 have hd:s.data.toList.drop p=s[p]::s.data.toList.drop (p+1):=by
  rw [List.drop_eq_getElem_cons (by rw [qa5];exact hp),qb3 s p hp]
 have hx:(s.extract p (p+2)).data.toList=(s.data.toList.drop p).take 2:=by rw [Lib.extract_data];simp
 obtain ⟨R,hR⟩:∃R,rTk (qa2 (qr3 (s.data.toList.drop p))) p (p+qt9 (s.data.toList.drop p))=R:=⟨_,rfl⟩
 rw [hR]
 obtain ⟨T,hT⟩:∃T,s.extract p (p+2)=T:=⟨_,rfl⟩
 rw [hT] at hx
 have hb1:(p:Int)+2≤(s.size:Int)∨¬(p:Int)+2≤(s.size:Int):=by omega
 by_cases hpr:vi0 (s.data.toList.drop p)
 ·have h2:p+2≤s.size:=by
   have:((s.data.toList.drop p).take 2).length=2:=by rcases hpr with h|h|h<;>rw [h]<;>rfl
   rw [List.length_take,List.length_drop,qa5] at this
   omega
  have h2':(p:Int)+2≤(s.size:Int):=by omega
  have hr:=sign_pair hpr p
  rw [hR,←hx] at hr
  have hTl:T.toList=(s.data.toList.drop p).take 2:=by rw [Lib.toList_data,hx]
  unfold vi0 at hpr
  rw [←hTl] at hpr
  clear hd hx hR hTl hb1
  rcases hpr with h|h|h
  all_goals
   go_enter Tryz.func258,Tryz.ntmps258
   go_wp2_with fail
   refine bodyPost_ret (by simp [results,Tryz.results258,go_sem]<;>rfl) rfl ⟨?_, ?_⟩
   all_goals go_light
   ·first|rfl|(rw [hr];rfl)
   ·repeat' (first|exact (Below.refl _ _).alloc (Nat.le_refl _) _|refine Below.setCell ?_ (by simp) _)
 ·have hx1:s.extract p (p+1)=BS [s[p]]:=ext_one hp
  rw [hd] at hpr
  have ht:∀x:List UInt8,(x=[60,62]∨x=[60,61]∨x=[62,61])→(T.toList==x)=false:=fun x hx'=>by
   rw [Lib.toList_data,hx,hd]
   refine beq_eq_false_iff_ne.2 fun e=>hpr ?_
   unfold vi0
   rw [e]
   exact hx'
  have t1:=ht [60,62] (.inl rfl)
  have t2:=ht [60,61] (.inr (.inl rfl))
  have t3:=ht [62,61] (.inr (.inr rfl))
  by_cases ha:s[p]∈jc7
  ·have h0r:=sign_one hpr ha p
   rw [←hd,hR] at h0r
   obtain ⟨S,hS⟩:∃S,s.extract p (p+1)=S:=⟨_,rfl⟩
   have hr:R=.agg #[.int .i64 5,.int .i64 p,.int .i64 ((p:Int)+1),.string S,.int .i64 0]:=by rw [h0r,←hS,hx1];rfl
   have hc:(s[p].toNat:Int)=61∨(s[p].toNat:Int)=60∨(s[p].toNat:Int)=62∨(s[p].toNat:Int)=43∨(s[p].toNat:Int)=45∨(s[p].toNat:Int)=42∨(s[p].toNat:Int)=47∨(s[p].toNat:Int)=40∨(s[p].toNat:Int)=41∨(s[p].toNat:Int)=44:=by
    unfold jc7 at ha
    simp only [List.mem_cons,List.not_mem_nil,or_false] at ha
    rcases ha with h|h|h|h|h|h|h|h|h|h<;>rw [h]<;>decide
   have HR:=j4 hr
   clear hd hx hR ht hpr ha hx1 hr h0r
   rcases hb1 with hb|hb<;>rcases hc with hc|hc|hc|hc|hc|hc|hc|hc|hc|hc
   all_goals
    go_enter Tryz.func258,Tryz.ntmps258
    go_wp2_with fail
    refine bodyPost_ret (by simp [results,Tryz.results258,go_sem]<;>rfl) rfl ⟨?_, ?_⟩
    all_goals go_light
    ·rw [q9 HR]
    ·repeat' (first|exact (Below.refl _ _).alloc (Nat.le_refl _) _|refine Below.setCell ?_ (by simp) _)
  ·have hr:=sign_none hpr ha p
   rw [←hd,hR] at hr
   have hn:∀x∈jc7,((s[p].toNat:Int)==(x.toNat:Int))=false:=fun x hx'=>beq_eq_false_iff_ne.2 fun e=>ha (by
    have:s[p]=x:=UInt8.toNat_inj.1 (by omega)
    rw [this];exact hx')
   have n1:((s[p].toNat:Int)==61)=false:=hn 61 (by decide)
   have n2:((s[p].toNat:Int)==60)=false:=hn 60 (by decide)
   have n3:((s[p].toNat:Int)==62)=false:=hn 62 (by decide)
   have n4:((s[p].toNat:Int)==43)=false:=hn 43 (by decide)
   have n5:((s[p].toNat:Int)==45)=false:=hn 45 (by decide)
   have n6:((s[p].toNat:Int)==42)=false:=hn 42 (by decide)
   have n7:((s[p].toNat:Int)==47)=false:=hn 47 (by decide)
   have n8:((s[p].toNat:Int)==40)=false:=hn 40 (by decide)
   have n9:((s[p].toNat:Int)==41)=false:=hn 41 (by decide)
   have n0:((s[p].toNat:Int)==44)=false:=hn 44 (by decide)
   clear hd hx hR ht hpr ha hx1 hn
   rcases hb1 with hb|hb
   all_goals
    go_enter Tryz.func258,Tryz.ntmps258
    go_wp2_with fail
    refine bodyPost_ret (by simp [results,Tryz.results258,go_sem]<;>rfl) rfl ⟨?_, ?_⟩
    all_goals go_light
    ·first|rfl|(rw [hr];rfl)
    ·repeat' (first|exact (Below.refl _ _).alloc (Nat.le_refl _) _|refine Below.setCell ?_ (by simp) _)
end
end Go.Proofs.YtfkcaldjphakpaaGreatDoor
