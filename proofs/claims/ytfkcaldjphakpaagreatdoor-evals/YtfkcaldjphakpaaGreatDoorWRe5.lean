/- The document's answer: a text's token. -/
import Derived.Test.YtfkcaldjphakpaaGreatDoorWRe4
namespace Go.Proofs.YtfkcaldjphakpaaGreatDoor
open Go.RowKit
theorem rTk_text (S:List UInt8) (a z:Nat):rTk ⟨4,0,S⟩ a z=rtV 4 a z S 0:=by simp [rTk,rK,rS]
theorem ext_one {s:ByteArray} {i:Nat} (h:i<s.size):s.extract i (i+1)=BS [s[i]]:=by
 have e:(s.extract i (i+1)).data.toList=[s[i]]:=by
  rw [Lib.extract_data]
  have:(s.data.toList.drop i).take (i+1 - i)=[s[i]]:=by
   rw [Nat.add_sub_cancel_left,List.drop_eq_getElem_cons (by rw [j4];exact h),j9 s i h]
   rfl
  simpa using this
 rw [←BS_of (s.extract i (i+1)),e]
theorem quot_ret {l:List UInt8} {xs:List UInt8} {k:Nat} (h:qh3 (l.drop 1)=some (xs,k)) (p:Nat):rTk (qh9 l) p (p+qt1 l)=rtV 4 p (p+(k+1):Nat) xs 0:=by
 obtain ⟨h1,h2⟩:=qr8 h
 rw [h1,h2,rTk_text]
theorem quot_bad {l:List UInt8} (h:qh3 (l.drop 1)=none) (p:Nat):rTk (qh9 l) p (p+qt1 l)=rtV 1 p 0 [] 0:=by
 rw [(vc5 h).1,vw5]
set_option maxHeartbeats 4000000 in
theorem rtext_any (s:ByteArray) (hs:s.size≤200) (p:Nat) (hp:p<s.size) (w:World) :
  Calls Tryz.prog 257 #[.string s,.int .i64 p] w fun e w'=>e=.returned (rTk (qh9 (s.data.toList.drop p)) p (p+qt1 (s.data.toList.drop p)))∧Below w.heap.size w w':=by
 have hl:=j4 s
 obtain ⟨l,hL⟩:∃l,s.data.toList.drop p=l:=⟨_,rfl⟩
 have hll:l.length=s.size - p:=by rw [←hL,List.length_drop,j4]
 have HX:Hid (∀i (h:i<s.size),p≤i→∃h':i - p<l.length,l[i - p]=s[i]):=v7 (by
  intro i h hpi
  refine ⟨by omega, ?_⟩
  have e:l[i - p]?=some s[i]:=by
   rw [←hL,List.getElem?_drop,show p+(i - p)=i by omega,List.getElem?_eq_getElem (by rw [j4];exact h),j9 s i h]
  exact (List.getElem?_eq_some_iff.1 e).2)
 obtain ⟨R,hR⟩:∃R,rTk (qh9 l) p (p+qt1 l)=R:=⟨_,rfl⟩
 have HRT:Hid (∀xs k,qh3 (l.drop 1)=some (xs,k)→R=rtV 4 p (p+(k+1):Nat) xs 0):=v7 fun xs k h=>by rw [←hR,quot_ret h]
 have HRF:Hid (qh3 (l.drop 1)=none→R=rtV 1 p 0 [] 0):=v7 fun h=>by rw [←hR,quot_bad h]
 rw [hL,hR]
 have HL:=v7 hll
 clear hR hL hll
 go_enter Tryz.func257,Tryz.ntmps257
 go_wp2_with fail
 go_loop [5,6] (fun o iv=>∃(i:Nat) (xs:List UInt8),p+1≤i∧i≤s.size∧o=.string (BS xs)∧iv=.int .i64 i∧xs.length≤i∧Hid (QAt l (i - p) xs)) (fun _ iv=>s.size - (intOf iv).toNat)
 case atStart=>exact ⟨p+1,[],Nat.le_refl _,by omega,rfl,by go_num,Nat.zero_le _,v7 (by rw [Nat.add_sub_cancel_left];exact QAt.start l)⟩
 case round=>
  obtain ⟨i,xs,hpi,hi,rfl,rfl,hxl,Q⟩:=hrel
  by_cases hlt:i<s.size
  ·obtain ⟨hq,hxi⟩:=q9 HX i hlt (by omega)
   by_cases hc:s[i]=39
   ·have hc':(s[i].toNat:Int)=39:=by rw [hc];rfl
    by_cases hn:∃h:i+1<s.size,s[i+1]=39
    ·obtain ⟨h1,h2⟩:=hn
     obtain ⟨hq2,hx2⟩:=q9 HX (i+1) h1 (by omega)
     have hd':(s[i+1].toNat:Int)=39:=by rw [h2];rfl
     have Q2:Hid (QAt l (i+2 - p) (xs++[39])):=v7 (by
      have:=(q9 Q).two (by omega) (by omega) (by rw [hxi];exact hc) (by
       have e:l[i - p+1]?=some s[i+1]:=by rw [show i - p+1=i+1 - p by omega,List.getElem?_eq_getElem hq2,hx2]
       rw [(List.getElem?_eq_some_iff.1 e).2];exact h2)
      rwa [show i - p+2=i+2 - p by omega] at this)
     have hadd:∀w:World,(Op.stringOp .add (BS xs) ⟨#[39]⟩).run Tryz.prog w=.ok (.string (BS (xs++[39]))) w:=fun w=>by
      rw [←BS_add]
      exact run_string_add_sum (P:=Tryz.prog) (w:=w) _ _ (by rw [qi8];show xs.length+1≤_;omega)
     have hb1:(i:Int)+1<(s.size:Int):=by omega
     have hb2:¬(i:Int)+1=(s.size:Int):=by omega
     clear Q hxi hq hx2 hq2 HRT HRF hc h2
     go_wp2_with fail
     go_round
     case rel=>exact ⟨i+2,xs++[39],by omega,by omega,rfl,by go_num,by simp;omega,Q2⟩
     case measure=>simp [intOf];omega
    ·have hcl:=(q9 Q).close (by omega) hq (by rw [hxi];exact hc) (fun h e=>hn ⟨by have:=q9 HL;omega,by
      obtain ⟨hq2,hx2⟩:=q9 HX (i+1) (by have:=q9 HL;omega) (by omega)
      rw [←hx2]
      have e2:l[i - p+1]?=some l[i+1 - p]:=by rw [show i - p+1=i+1 - p by omega,List.getElem?_eq_getElem hq2]
      rw [←(List.getElem?_eq_some_iff.1 e2).2];exact e⟩)
     have hr:=q9 HRT _ _ hcl
     rw [show p+(i - p+1)=i+1 by omega] at hr
     have hway:i+1=s.size∨∃h:i+1<s.size,¬(s[i+1].toNat:Int)=39:=by
      by_cases h:i+1<s.size
      ·right
       refine ⟨h,fun e=>hn ⟨h, ?_⟩⟩
       apply UInt8.toNat_inj.1
       show s[i+1].toNat=39
       omega
      ·left;omega
     clear hcl Q hxi hq HRT HRF hn hc
     rcases hway with hw|⟨h,hw⟩
     ·have hw':(i:Int)+1=(s.size:Int):=by omega
      go_wp2_with fail
      refine bodyPost_ret (by simp [results,Tryz.results257,go_sem]<;>rfl) rfl ⟨?_, ?_⟩
      all_goals go_light
      ·first|rfl|(rw [hr];rfl)
      ·repeat' (first|exact (Below.refl _ _).alloc (Nat.le_refl _) _|refine Below.setCell ?_ (by simp) _)
     ·have hw':¬(i:Int)+1=(s.size:Int):=by omega
      have hw2:((s[i+1].toNat:Int) != 39)=true:=by simpa using hw
      have hb1:(i:Int)+1<(s.size:Int):=by omega
      go_wp2_with fail
      refine bodyPost_ret (by simp [results,Tryz.results257,go_sem]<;>rfl) rfl ⟨?_, ?_⟩
      all_goals go_light
      ·first|rfl|(rw [hr];rfl)
      ·repeat' (first|exact (Below.refl _ _).alloc (Nat.le_refl _) _|refine Below.setCell ?_ (by simp) _)
   ·have hc':¬(s[i].toNat:Int)=39:=fun e=>hc (by apply UInt8.toNat_inj.1;show s[i].toNat=39;omega)
    have Q2:Hid (QAt l (i+1 - p) (xs++[s[i]])):=v7 (by
     have:=(q9 Q).one (by omega) hq (by rw [hxi];exact hc)
     rwa [hxi,show i - p+1=i+1 - p by omega] at this)
    have hadd:∀w:World,(Op.stringOp .add (BS xs) (s.extract i (i+1))).run Tryz.prog w=.ok (.string (BS (xs++[s[i]]))) w:=fun w=>by
     rw [ext_one hlt,←BS_add]
     exact run_string_add_sum (P:=Tryz.prog) (w:=w) _ _ (by rw [qi8,qi8];show xs.length+1≤_;omega)
    clear Q hxi hq HRT HRF hc
    go_wp2_with fail
    go_round
    case rel=>exact ⟨i+1,xs++[s[i]],by omega,by omega,rfl,by go_num,by simp;omega,Q2⟩
    case measure=>simp [intOf];omega
  ·obtain rfl:i=s.size:=by omega
   have hr:=q9 HRF ((q9 Q).over (by have:=q9 HL;omega))
   clear Q HRT HRF
   go_wp2_with fail
   refine bodyPost_ret (by simp [results,Tryz.results257,go_sem]<;>rfl) rfl ⟨?_, ?_⟩
   all_goals go_light
   ·first|rfl|(rw [hr];rfl)
   ·repeat' (first|exact (Below.refl _ _).alloc (Nat.le_refl _) _|refine Below.setCell ?_ (by simp) _)
end Go.Proofs.YtfkcaldjphakpaaGreatDoor
