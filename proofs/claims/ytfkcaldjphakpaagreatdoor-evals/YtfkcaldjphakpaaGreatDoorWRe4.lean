/- The document's answer: a number's token. -/
import Derived.Test.YtfkcaldjphakpaaGreatDoorWRe3
namespace Go.Proofs.YtfkcaldjphakpaaGreatDoor
open Go.RowKit
theorem rTk_num (v:Int) (a z:Nat):rTk ⟨3,v,[]⟩ a z=rtV 3 a z [] v:=by simp [rTk,rK,rS,kwT]
theorem vw5 (a z:Nat):rTk (j6 1) a z=rtV 1 a 0 [] 0:=by simp [rTk,j6]
theorem jc5 (l:List UInt8) (c:UInt8):∀k,qh0 k (l++[c])=qh0 k l * 10+(c.toNat - 48):=by
 induction l with
 | nil=>intro k;rfl
 | cons d t ih=>
  intro k
  show qh0 (k * 10+(d.toNat - 48)) (t++[c])=qh0 (k * 10+(d.toNat - 48)) t * 10+(c.toNat - 48)
  rw [ih]
theorem vt8 {s:ByteArray} {p k:Nat} (hpk:p≤k) (hk:k<s.size):qh0 0 ((s.data.toList.drop p).take (k+1 - p))=qh0 0 ((s.data.toList.drop p).take (k - p)) * 10+(s[k].toNat - 48):=by
 have e:(s.data.toList.drop p).take (k+1 - p)=(s.data.toList.drop p).take (k - p)++[s[k]]:=by
  rw [show k+1 - p=(k - p)+1 by omega,List.take_add_one,List.getElem?_drop,show p+(k - p)=k by omega,List.getElem?_eq_getElem (by rw [j4];exact hk),j9 s k hk]
  rfl
 rw [e,jc5]
def NumAt (s:ByteArray) (p k:Nat) (n:Nat) (bad:Bool):Prop:=n≤9223372036854775807∧if bad=true then 9223372036854775807<qh0 0 ((s.data.toList.drop p).take (k - p)) else n=qh0 0 ((s.data.toList.drop p).take (k - p))
set_option maxHeartbeats 4000000 in
theorem vx0 (s:ByteArray) (hs:s.size≤200) (p:Nat) (hp:p<s.size) (w:World) :
  Calls Tryz.prog 256 #[.string s,.int .i64 p] w fun e w'=>e=.returned (rTk (qq6 (s.data.toList.drop p)) p (p+qa4 qj7 (s.data.toList.drop p)))∧Below w.heap.size w w':=by
 have hl:=j4 s
 obtain ⟨z,hz⟩:∃z,qa4 qj7 (s.data.toList.drop p)=z:=⟨_,rfl⟩
 obtain ⟨v,hv⟩:∃v,qh0 0 ((s.data.toList.drop p).take z)=v:=⟨_,rfl⟩
 obtain ⟨R,hR⟩:∃R,rTk (qq6 (s.data.toList.drop p)) p (p+z)=R:=⟨_,rfl⟩
 have HRT:Hid (v≤9223372036854775807→R=rtV 3 p (p+z:Nat) [] v):=v7 fun h=>by
  rw [←hR]
  unfold qq6
  rw [hz,hv,if_pos (by omega),rTk_num]
 have HRF:Hid (¬v≤9223372036854775807→R=rtV 1 p 0 [] 0):=v7 fun h=>by
  rw [←hR]
  unfold qq6
  rw [hz,hv,if_neg (by omega),vw5]
 have HR0:=v7 hz
 have HV:=v7 hv
 rw [hz,hR]
 clear hR hz hv
 go_enter Tryz.func256,Tryz.ntmps256
 go_wp2_with fail
 go_loop [5,6,7] (fun i m b=>∃(k n:Nat) (bad:Bool),p≤k∧k≤s.size∧i=.int .i64 k∧m=.int .u64 n∧b=.bool bad∧Hid (z+p=qa4 qj7 (s.data.toList.drop k)+k∧NumAt s p k n bad)) (fun i _ _=>s.size - (intOf i).toNat)
 case atStart=>exact ⟨p,0,false,Nat.le_refl _,by omega,rfl,rfl,rfl,v7 ⟨by have:=q9 HR0;omega,Nat.zero_le _,by rw [Nat.sub_self];rfl⟩⟩
 case round=>
  obtain ⟨k,m,bad,hpk,hk,rfl,rfl,rfl,H⟩:=hrel
  by_cases hgo:∃hlt:k<s.size,qj7 s[k]=true
  ·obtain ⟨hlt,hg⟩:=hgo
   have hr2:=qe7 qj7 s.data.toList k (by omega) hg
   have hd:=vt8 hpk hlt
   have hdg:48≤s[k].toNat∧s[k].toNat≤57:=by simp [qj7,va0] at hg;omega
   have hc0:(48:Int)≤(s[k].toNat:Int):=by omega
   have hc1:(s[k].toNat:Int)≤57:=by omega
   obtain ⟨h1,hm,h2⟩:=q9 H
   obtain ⟨d,hdd⟩:∃d:Nat,d=s[k].toNat - 48:=⟨_,rfl⟩
   rw [←hdd] at hd
   have hd9:d≤9:=by omega
   have hdi:(s[k].toNat:Int) - 48=(d:Int):=by omega
   cases bad with
   | true=>
    have HN:Hid (z+p=qa4 qj7 (s.data.toList.drop (k+1))+(k+1)∧NumAt s p (k+1) m true):=v7 ⟨by rw [h1,hr2];omega,hm,by rw [if_pos rfl,hd];rw [if_pos rfl] at h2;omega⟩
    clear hr2 hd h1 h2 H hg hdi hdd hdg
    go_wp2_with fail
    go_round
    case rel=>exact ⟨k+1,m,true,by omega,by omega,by go_num,rfl,rfl,HN⟩
    case measure=>simp [intOf];omega
   | false=>
    rw [if_neg (by decide)] at h2
    by_cases hb:m * 10+d≤9223372036854775807
    ·have HN:Hid (z+p=qa4 qj7 (s.data.toList.drop (k+1))+(k+1)∧NumAt s p (k+1) (m * 10+d) false):=v7 ⟨by rw [h1,hr2];omega,hb,by rw [if_neg (by decide),hd,←h2]⟩
     have hcmp:¬(9223372036854775807 - ((s[k].toNat:Int) - 48)) / 10<(m:Int):=by omega
     have hdec:decide ((9223372036854775807 - ((s[k].toNat:Int) - 48)) / 10<(m:Int))=false:=decide_eq_false hcmp
     have hsum:(m:Int) * 10+((s[k].toNat:Int) - 48)≤9223372036854775807:=by omega
     have HQ:Hid ((m:Int) * 10+((s[k].toNat:Int) - 48)=((m * 10+d:Nat):Int)):=v7 (by omega)
     clear hr2 hd h1 h2 H hg hdi hdg hd9 hdd hb
     go_wp2_with fail
     go_round
     case rel=>exact ⟨k+1,m * 10+d,false,by omega,by omega,by go_num,by rw [q9 HQ],rfl,HN⟩
     case measure=>simp [intOf];omega
    ·have HN:Hid (z+p=qa4 qj7 (s.data.toList.drop (k+1))+(k+1)∧NumAt s p (k+1) m true):=v7 ⟨by rw [h1,hr2];omega,hm,by rw [if_pos rfl,hd,←h2];omega⟩
     have hcmp:(9223372036854775807 - ((s[k].toNat:Int) - 48)) / 10<(m:Int):=by omega
     have hdec:decide ((9223372036854775807 - ((s[k].toNat:Int) - 48)) / 10<(m:Int))=true:=decide_eq_true hcmp
     clear hr2 hd h1 h2 H hg hdi hdd hdg hd9 hb
     go_wp2_with fail
     go_round
     case rel=>exact ⟨k+1,m,true,by omega,by omega,by go_num,rfl,rfl,HN⟩
     case measure=>simp [intOf];omega
  ·obtain ⟨h1,hm,h2⟩:=q9 H
   have hzk:z+p=k:=by
    by_cases hlt:k<s.size
    ·have hg:qj7 s[k]=false:=by cases hg:qj7 s[k] with|false=>rfl|true=>exact absurd ⟨hlt,hg⟩ hgo
     have:=qf9 qj7 s.data.toList k (by omega) hg
     rw [h1,this];omega
    ·have:=qg7 qj7 s.data.toList k (by omega)
     rw [h1,this];omega
   rw [show k - p=z by omega,q9 HV] at h2
   have HG:∀hlt:k<s.size,¬(48≤s[k].toNat∧s[k].toNat≤57):=fun hlt h=>hgo ⟨hlt,by simp [qj7,va0];omega⟩
   have HZ:Hid ((p+z:Nat)=k):=v7 (by omega)
   have hways:k=s.size∨∃hlt:k<s.size,(¬(48:Int)≤(s[k].toNat:Int))∨((48:Int)≤(s[k].toNat:Int)∧¬(s[k].toNat:Int)≤57):=by
    by_cases hlt:k<s.size
    ·right
     refine ⟨hlt, ?_⟩
     have:=HG hlt
     omega
    ·left;omega
   have hm':(m:Int)≤9223372036854775807:=by omega
   cases bad with
   | true=>
    rw [if_pos rfl] at h2
    have hr:=q9 HRF (by omega)
    clear HG hgo H h1 h2 hzk HRT HRF HR0 HV
    rcases hways with rfl|⟨hlt,hw|⟨hw1,hw2⟩⟩
    all_goals
     go_wp2_with fail
     refine bodyPost_ret (by simp [results,Tryz.results256,go_sem]<;>rfl) rfl ⟨?_, ?_⟩
     all_goals go_light
     ·first|rfl|(rw [hr];rfl)
     ·repeat' (first|exact qb2 _ _ _|refine Below.setCell ?_ (by simp) _)
   | false=>
    rw [if_neg (by decide)] at h2
    have hr:=q9 HRT (by omega)
    rw [q9 HZ,←h2] at hr
    clear HG hgo H h1 h2 hzk HRT HRF HR0 HV
    rcases hways with rfl|⟨hlt,hw|⟨hw1,hw2⟩⟩
    all_goals
     go_wp2_with fail
     refine bodyPost_ret (by simp [results,Tryz.results256,go_sem]<;>rfl) rfl ⟨?_, ?_⟩
     all_goals go_light
     ·first|rfl|(rw [hr];rfl)
     ·repeat' (first|exact qb2 _ _ _|refine Below.setCell ?_ (by simp) _)
end Go.Proofs.YtfkcaldjphakpaaGreatDoor
