/- The document's answer: a word's token. The document's answer: a number's token. -/
import Derived.Test.YtfkcaldjphakpaaGreatDoorM11
import Derived.Test.YtfkcaldjphakpaaGreatDoorM02
namespace Go.Proofs.YtfkcaldjphakpaaGreatDoor
open Go.RowKit
section
def rtV (k a t:Int) (S:List UInt8) (n:Int):Value:=.agg #[.int .i64 k,.int .i64 a,.int .i64 t,.string (BS S),.int .i64 n]
def kwT (k:Int):List UInt8:=
 if k=5 then [65,78,68] else if k=6 then [79,82] else if k=7 then [78,79,84] else if k=8 then [84,82,85,69] else if k=9 then [70,65,76,83,69]
 else if k=10 then [66,69,84,87,69,69,78] else if k=11 then [73,78] else if k=12 then [76,73,75,69] else if k=13 then [69,83,67,65,80,69] else if k=14 then [73,83]
 else if k=15 then [78,85,76,76] else if k=16 then [61] else if k=17 then [60,62] else if k=18 then [60] else if k=19 then [60,61] else if k=20 then [62] else if k=21 then [62,61]
 else if k=22 then [43] else if k=23 then [45] else if k=24 then [42] else if k=25 then [47] else if k=26 then [40] else if k=27 then [41] else if k=28 then [44] else []
def rK (k:Int):Int:=if k≤4 then k else if k≤15 then 6 else 5
def rS (t:Tk):List UInt8:=if t.kind=2∨t.kind=4 then t.str else kwT t.kind
def rTk (t:Tk) (a z:Nat):Value:=if t.kind=1 then rtV 1 a 0 [] 0 else rtV (rK t.kind) a z (rS t) t.num
theorem kw_text {l:List UInt8} (h:kwK l≠2):kwT (kwK l)=l∧5≤kwK l∧kwK l≤15:=by
 by_cases e0:l=[65,78,68]
 ·subst e0;exact ⟨rfl,by decide,by decide⟩
 by_cases e1:l=[79,82]
 ·subst e1;exact ⟨rfl,by decide,by decide⟩
 by_cases e2:l=[78,79,84]
 ·subst e2;exact ⟨rfl,by decide,by decide⟩
 by_cases e3:l=[84,82,85,69]
 ·subst e3;exact ⟨rfl,by decide,by decide⟩
 by_cases e4:l=[70,65,76,83,69]
 ·subst e4;exact ⟨rfl,by decide,by decide⟩
 by_cases e5:l=[66,69,84,87,69,69,78]
 ·subst e5;exact ⟨rfl,by decide,by decide⟩
 by_cases e6:l=[73,78]
 ·subst e6;exact ⟨rfl,by decide,by decide⟩
 by_cases e7:l=[76,73,75,69]
 ·subst e7;exact ⟨rfl,by decide,by decide⟩
 by_cases e8:l=[69,83,67,65,80,69]
 ·subst e8;exact ⟨rfl,by decide,by decide⟩
 by_cases e9:l=[73,83]
 ·subst e9;exact ⟨rfl,by decide,by decide⟩
 by_cases e10:l=[78,85,76,76]
 ·subst e10;exact ⟨rfl,by decide,by decide⟩
 exact absurd (by unfold kwK;simp [e0,e1,e2,e3,e4,e5,e6,e7,e8,e9,e10]) h
theorem word_run {l:List UInt8} {c:UInt8} {t:List UInt8} (hl:l=c::t) (hb:vc0 c=true):qb8 l=qc0 qu4 l:=by
 subst hl
 have:qu4 c=true:=by unfold qu4 goeB;unfold vc0 at hb;simp [hb]
 simp [qb8,hb,qc0,this]
theorem rTk_kw {k:Int} {U:List UInt8} (h1:kwT k=U) (h2:5≤k) (h3:k≤15) (a z:Nat):rTk (qa2 k) a z=rtV 6 a z U 0:=by
 unfold rTk
 rw [if_neg (show ¬(qa2 k).kind=1 by show ¬k=1;omega)]
 have e1:rK (qa2 k).kind=6:=by show rK k=6;unfold rK;rw [if_neg (by omega),if_pos h3]
 have e2:rS (qa2 k)=U:=by
  unfold rS
  rw [if_neg (show ¬((qa2 k).kind=2∨(qa2 k).kind=4) by show ¬(k=2∨k=4);omega)]
  exact h1
 rw [e1,e2]
 rfl
theorem rTk_name (S:List UInt8) (a z:Nat):rTk ⟨2,0,S⟩ a z=rtV 2 a z S 0:=by simp [rTk,rK,rS]
set_option maxHeartbeats 2000000 in
theorem rword_any (s:ByteArray) (hs:s.size≤200) (p:Nat) (hp:p<s.size) (hb:vc0 s[p]=true) (w:World) :
  Calls Tryz.prog 182 #[.string s,.int .i64 p] w fun e w'=>e=.returned (rTk (qk2 (s.data.toList.drop p)) p (p+qb8 (s.data.toList.drop p)))∧Below w.heap.size w w':=by
 have hl:=qa5 s
 have hd:s.data.toList.drop p=s[p]::s.data.toList.drop (p+1):=by
  rw [List.drop_eq_getElem_cons (by rw [qa5];exact hp),qb3 s p hp]
 have hwr:=word_run hd hb
 have hle:=qt3 (s.data.toList.drop p)
 rw [List.length_drop,qa5] at hle
 obtain ⟨z,hz⟩:∃z,qb8 (s.data.toList.drop p)=z:=⟨_,rfl⟩
 have hx:(s.extract p (p+z)).data.toList=(s.data.toList.drop p).take z:=by rw [Lib.extract_data];simp
 have hT:qk2 (s.data.toList.drop p)=if qy1 ((s.data.toList.drop p).take z)=2 then ⟨2,0,(s.data.toList.drop p).take z⟩ else qa2 (qy1 ((s.data.toList.drop p).take z)):=by rw [←hz];rfl
 rw [hT,hz]
 rw [hz] at hwr hle
 obtain ⟨W,hW⟩:∃W,s.extract p (p+z)=W:=⟨_,rfl⟩
 rw [hW] at hx
 have hWs:W.size≤1000:=by
  have:=congrArg List.length hx
  rw [qa5,List.length_take,List.length_drop,qa5] at this
  omega
 rw [←hx]
 have CAP:=j4 (rcap_any W hWs)
 obtain ⟨U,hU⟩:∃U,Lib.toUpperA W.data.toList=U:=⟨_,rfl⟩
 have hK:qy1 W.data.toList=kwK U:=by unfold qy1;rw [hU]
 rw [hU] at CAP
 rw [hK]
 have KEY:Hid (∀w,Calls Tryz.prog 232 #[.string (BS U)] w fun e w'=>e=.returned (.bool (kwK U != 2))∧w'=w):=j4 fun w=>vu7 (BS U) w
 have HWZ:=j4 hW
 have HR0:Hid (z=qc0 qu4 (s.data.toList.drop p)+0):=j4 (by omega)
 obtain ⟨kk,hkk⟩:∃kk,(kwK U != 2)=kk:=⟨_,rfl⟩
 rw [hkk] at KEY
 obtain ⟨R,hR⟩:∃R,rTk (if kwK U=2 then ⟨2,0,W.data.toList⟩ else qa2 (kwK U)) p (p+z)=R:=⟨_,rfl⟩
 rw [hR]
 have HRT:Hid (kk=true→R=rtV 6 p (p+z:Nat) U 0):=j4 fun e=>by
  have hne:kwK U≠2:=by rw [e] at hkk;simpa using hkk
  rw [if_neg hne] at hR
  obtain ⟨q1,q2,q3⟩:=kw_text hne
  rw [←hR,rTk_kw q1 q2 q3]
 have HRF:Hid (kk=false→R=rtV 2 p (p+z:Nat) W.data.toList 0):=j4 fun e=>by
  have hne:kwK U=2:=by rw [e] at hkk;simpa using hkk
  rw [if_pos hne] at hR
  rw [←hR,rTk_name]
 clear hR hd hwr hz hT hx hU hK hkk hb hW
 go_enter Tryz.func182,Tryz.ntmps182
 go_wp2_with fail
 go_loop [5] (fun i=>∃k:Nat,p≤k∧k≤s.size∧i=.int .i64 k∧Hid (z+p=qc0 qu4 (s.data.toList.drop k)+k)) (fun i=>s.size - (intOf i).toNat)
 case atStart=>exact ⟨p,Nat.le_refl _,by omega,rfl,j4 (by have:=q9 HR0;omega)⟩
 case round=>
  obtain ⟨k,hpk,hk,rfl,hr⟩:=hrel
  by_cases hgo:∃hlt:k<s.size,qu4 s[k]=true
  ·obtain ⟨hlt,hg⟩:=hgo
   have hr2:=qf3 qu4 s.data.toList k (by omega) hg
   have HR:Hid (z+p=qc0 qu4 (s.data.toList.drop (k+1))+(k+1)):=j4 (by rw [q9 hr,hr2];omega)
   clear hr2 hr CAP KEY
   cases hbg:vc0 s[k] with
   | true=>
    have Hb:=j4 hbg
    clear hg hbg
    go_wp2_with (first|(go_at_call 181;refine (qi6 _ _).mono ?_;rintro e w' ⟨rfl,rfl⟩;rw [show vd5 (s[k].toNat:Int)=true from q9 Hb]))
    go_round
    case rel=>exact ⟨k+1,by omega,by omega,by go_num,HR⟩
    case measure=>simp [intOf];omega
   | false=>
    have Hb:=j4 hbg
    cases hdg:qm2 s[k] with
    | true=>
     have Hd:=j4 hdg
     clear hg hbg hdg
     go_wp2_with (first|(go_at_call 181;refine (qi6 _ _).mono ?_;rintro e w' ⟨rfl,rfl⟩;rw [show vd5 (s[k].toNat:Int)=false from q9 Hb])|(go_at_call 230;refine (qk9 _ _).mono ?_;rintro e w' ⟨rfl,rfl⟩;rw [show vc8 (s[k].toNat:Int)=true from q9 Hd]))
     go_round
     case rel=>exact ⟨k+1,by omega,by omega,by go_num,HR⟩
     case measure=>simp [intOf];omega
    | false=>
     have Hd:=j4 hdg
     have H46:Hid ((s[k].toNat:Int)=46):=j4 (by
      unfold qu4 goeB at hg
      unfold vc0 at hbg
      unfold qm2 at hdg
      rw [hbg,hdg] at hg
      simpa using hg)
     clear hg hbg hdg
     go_wp2_with (first|(go_at_call 181;refine (qi6 _ _).mono ?_;rintro e w' ⟨rfl,rfl⟩;rw [show vd5 (s[k].toNat:Int)=false from q9 Hb])|(go_at_call 230;refine (qk9 _ _).mono ?_;rintro e w' ⟨rfl,rfl⟩;rw [show vc8 (s[k].toNat:Int)=false from q9 Hd];have h46:=q9 H46))
     go_round
     case rel=>exact ⟨k+1,by omega,by omega,by go_num,HR⟩
     case measure=>simp [intOf];omega
  ·have hzk:z+p=k:=by
    by_cases hlt:k<s.size
    ·have hg:qu4 s[k]=false:=by cases hg:qu4 s[k] with|false=>rfl|true=>exact absurd ⟨hlt,hg⟩ hgo
     have:=qg7 qu4 s.data.toList k (by omega) hg
     rw [q9 hr,this];omega
    ·have:=qh8 qu4 s.data.toList k (by omega)
     rw [q9 hr,this];omega
   have Hg:Hid (∀hlt:k<s.size,vc0 s[k]=false∧qm2 s[k]=false∧¬(s[k].toNat:Int)=46):=j4 fun hlt=>by
    have hg:qu4 s[k]=false:=by cases hg:qu4 s[k] with|false=>rfl|true=>exact absurd ⟨hlt,hg⟩ hgo
    unfold qu4 goeB at hg
    simp only [Bool.or_eq_false_iff,beq_eq_false_iff_ne] at hg
    exact ⟨hg.1.1,hg.1.2,hg.2⟩
   have HW2:Hid (s.extract p k=W):=j4 (by rw [←hzk,Nat.add_comm z p];exact q9 HWZ)
   have HZ:Hid (z+p=k):=j4 hzk
   clear hr hgo hzk HWZ HR0
   cases kk with
   | true=>
    by_cases hlt:k<s.size
    all_goals
     go_wp2_with (first|(go_at_call 181;refine (qi6 _ _).mono ?_;rintro e w' ⟨rfl,rfl⟩;rw [show vd5 (s[k].toNat:Int)=false from (q9 Hg hlt).1])|(go_at_call 230;refine (qk9 _ _).mono ?_;rintro e w' ⟨rfl,rfl⟩;rw [show vc8 (s[k].toNat:Int)=false from (q9 Hg hlt).2.1];have h46:=(q9 Hg hlt).2.2)|(go_at_call 231;rw [q9 HW2];refine (q9 CAP _).mono ?_;rintro e w1 ⟨rfl,hb1⟩;obtain ⟨hc,hf⟩:=qa9 hb1;have hz1:=hb1.size;have B1:=j4 hb1;clear hb1;have c0:w1.cell? ⟨w.heap.size,0,none⟩=some (.int .i64 0):=(hc _ 0 (by simp;omega)).trans (by rw [World.cell?_alloc_past _ _ _ (by simp)];simp);have c1:w1.cell? ⟨w.heap.size,1,none⟩=some (.int .i64 0):=(hc _ 1 (by simp;omega)).trans (by rw [World.cell?_alloc_past _ _ _ (by simp)];simp);have c2:w1.cell? ⟨w.heap.size,2,none⟩=some (.int .i64 0):=(hc _ 2 (by simp;omega)).trans (by rw [World.cell?_alloc_past _ _ _ (by simp)];simp);have c3:w1.cell? ⟨w.heap.size,3,none⟩=some (.string ⟨#[]⟩):=(hc _ 3 (by simp;omega)).trans (by rw [World.cell?_alloc_past _ _ _ (by simp)];simp);have c4:w1.cell? ⟨w.heap.size,4,none⟩=some (.int .i64 0):=(hc _ 4 (by simp;omega)).trans (by rw [World.cell?_alloc_past _ _ _ (by simp)];simp))|(go_at_call 232;refine (q9 KEY _).mono ?_;rintro e w2 ⟨rfl,rfl⟩))
     refine bodyPost_ret (by simp [results,Tryz.results182,go_sem,c0,c1,c2,c3,c4]<;>rfl) rfl ⟨?_, ?_⟩
     all_goals go_light
     ·rw [q9 HRT trivial,show ((p+z:Nat):Int)=(k:Int) by have:=q9 HZ;omega]
      rfl
     ·exact (((((((qd0 (qd0 (q9 B1))).setCell (by simp) _).setCell (by simp) _).setCell (by simp) _).setCell (by simp) _).setCell (by simp) _).setCell (by simp) _).setCell (by simp) _
   | false=>
    by_cases hlt:k<s.size
    all_goals
     go_wp2_with (first|(go_at_call 181;refine (qi6 _ _).mono ?_;rintro e w' ⟨rfl,rfl⟩;rw [show vd5 (s[k].toNat:Int)=false from (q9 Hg hlt).1])|(go_at_call 230;refine (qk9 _ _).mono ?_;rintro e w' ⟨rfl,rfl⟩;rw [show vc8 (s[k].toNat:Int)=false from (q9 Hg hlt).2.1];have h46:=(q9 Hg hlt).2.2)|(go_at_call 231;rw [q9 HW2];refine (q9 CAP _).mono ?_;rintro e w1 ⟨rfl,hb1⟩;obtain ⟨hc,hf⟩:=qa9 hb1;have hz1:=hb1.size;have B1:=j4 hb1;clear hb1;have c0:w1.cell? ⟨w.heap.size,0,none⟩=some (.int .i64 0):=(hc _ 0 (by simp;omega)).trans (by rw [World.cell?_alloc_past _ _ _ (by simp)];simp);have c1:w1.cell? ⟨w.heap.size,1,none⟩=some (.int .i64 0):=(hc _ 1 (by simp;omega)).trans (by rw [World.cell?_alloc_past _ _ _ (by simp)];simp);have c2:w1.cell? ⟨w.heap.size,2,none⟩=some (.int .i64 0):=(hc _ 2 (by simp;omega)).trans (by rw [World.cell?_alloc_past _ _ _ (by simp)];simp);have c3:w1.cell? ⟨w.heap.size,3,none⟩=some (.string ⟨#[]⟩):=(hc _ 3 (by simp;omega)).trans (by rw [World.cell?_alloc_past _ _ _ (by simp)];simp);have c4:w1.cell? ⟨w.heap.size,4,none⟩=some (.int .i64 0):=(hc _ 4 (by simp;omega)).trans (by rw [World.cell?_alloc_past _ _ _ (by simp)];simp))|(go_at_call 232;refine (q9 KEY _).mono ?_;rintro e w2 ⟨rfl,rfl⟩))
     refine bodyPost_ret (by simp [results,Tryz.results182,go_sem,c0,c1,c2,c3,c4]<;>rfl) rfl ⟨?_, ?_⟩
     all_goals go_light
     ·rw [q9 HRF trivial,show ((p+z:Nat):Int)=(k:Int) by have:=q9 HZ;omega]
      rfl
     ·exact (((((qd0 (qd0 (q9 B1))).setCell (by simp) _).setCell (by simp) _).setCell (by simp) _).setCell (by simp) _).setCell (by simp) _
end
section
theorem rTk_num (v:Int) (a z:Nat):rTk ⟨3,v,[]⟩ a z=rtV 3 a z [] v:=by simp [rTk,rK,rS,kwT]
theorem jb1 (a z:Nat):rTk (qa2 1) a z=rtV 1 a 0 [] 0:=by simp [rTk,qa2]
theorem jh1 (l:List UInt8) (c:UInt8):∀k,qi0 k (l++[c])=qi0 k l * 10+(c.toNat - 48):=by
 induction l with
 | nil=>intro k;rfl
 | cons d t ih=>
  intro k
  show qi0 (k * 10+(d.toNat - 48)) (t++[c])=qi0 (k * 10+(d.toNat - 48)) t * 10+(c.toNat - 48)
  rw [ih]
theorem vy7 {s:ByteArray} {p k:Nat} (hpk:p≤k) (hk:k<s.size):qi0 0 ((s.data.toList.drop p).take (k+1 - p))=qi0 0 ((s.data.toList.drop p).take (k - p)) * 10+(s[k].toNat - 48):=by
 have e:(s.data.toList.drop p).take (k+1 - p)=(s.data.toList.drop p).take (k - p)++[s[k]]:=by
  rw [show k+1 - p=(k - p)+1 by omega,List.take_add_one,List.getElem?_drop,show p+(k - p)=k by omega,List.getElem?_eq_getElem (by rw [qa5];exact hk),qb3 s k hk]
  rfl
 rw [e,jh1]
def NumAt (s:ByteArray) (p k:Nat) (n:Nat) (bad:Bool):Prop:=n≤9223372036854775807∧if bad=true then 9223372036854775807<qi0 0 ((s.data.toList.drop p).take (k - p)) else n=qi0 0 ((s.data.toList.drop p).take (k - p))
set_option maxHeartbeats 4000000 in
theorem jb7 (s:ByteArray) (hs:s.size≤200) (p:Nat) (hp:p<s.size) (w:World) :
  Calls Tryz.prog 256 #[.string s,.int .i64 p] w fun e w'=>e=.returned (rTk (qr8 (s.data.toList.drop p)) p (p+qc0 qm2 (s.data.toList.drop p)))∧Below w.heap.size w w':=by
 have hl:=qa5 s
 obtain ⟨z,hz⟩:∃z,qc0 qm2 (s.data.toList.drop p)=z:=⟨_,rfl⟩
 obtain ⟨v,hv⟩:∃v,qi0 0 ((s.data.toList.drop p).take z)=v:=⟨_,rfl⟩
 obtain ⟨R,hR⟩:∃R,rTk (qr8 (s.data.toList.drop p)) p (p+z)=R:=⟨_,rfl⟩
 have HRT:Hid (v≤9223372036854775807→R=rtV 3 p (p+z:Nat) [] v):=j4 fun h=>by
  rw [←hR]
  unfold qr8
  rw [hz,hv,if_pos (by omega),rTk_num]
 have HRF:Hid (¬v≤9223372036854775807→R=rtV 1 p 0 [] 0):=j4 fun h=>by
  rw [←hR]
  unfold qr8
  rw [hz,hv,if_neg (by omega),jb1]
 have HR0:=j4 hz
 have HV:=j4 hv
 rw [hz,hR]
 clear hR hz hv
 go_enter Tryz.func256,Tryz.ntmps256
 go_wp2_with fail
 go_loop [5,6,7] (fun i m b=>∃(k n:Nat) (bad:Bool),p≤k∧k≤s.size∧i=.int .i64 k∧m=.int .u64 n∧b=.bool bad∧Hid (z+p=qc0 qm2 (s.data.toList.drop k)+k∧NumAt s p k n bad)) (fun i _ _=>s.size - (intOf i).toNat)
 case atStart=>exact ⟨p,0,false,Nat.le_refl _,by omega,rfl,rfl,rfl,j4 ⟨by have:=q9 HR0;omega,Nat.zero_le _,by rw [Nat.sub_self];rfl⟩⟩
 case round=>
  obtain ⟨k,m,bad,hpk,hk,rfl,rfl,rfl,H⟩:=hrel
  by_cases hgo:∃hlt:k<s.size,qm2 s[k]=true
  ·obtain ⟨hlt,hg⟩:=hgo
   have hr2:=qf3 qm2 s.data.toList k (by omega) hg
   have hd:=vy7 hpk hlt
   have hdg:48≤s[k].toNat∧s[k].toNat≤57:=by simp [qm2,vc8] at hg;omega
   have hc0:(48:Int)≤(s[k].toNat:Int):=by omega
   have hc1:(s[k].toNat:Int)≤57:=by omega
   obtain ⟨h1,hm,h2⟩:=q9 H
   obtain ⟨d,hdd⟩:∃d:Nat,d=s[k].toNat - 48:=⟨_,rfl⟩
   rw [←hdd] at hd
   have hd9:d≤9:=by omega
   have hdi:(s[k].toNat:Int) - 48=(d:Int):=by omega
   cases bad with
   | true=>
    have HN:Hid (z+p=qc0 qm2 (s.data.toList.drop (k+1))+(k+1)∧NumAt s p (k+1) m true):=j4 ⟨by rw [h1,hr2];omega,hm,by rw [if_pos rfl,hd];rw [if_pos rfl] at h2;omega⟩
    clear hr2 hd h1 h2 H hg hdi hdd hdg
    go_wp2_with fail
    go_round
    case rel=>exact ⟨k+1,m,true,by omega,by omega,by go_num,rfl,rfl,HN⟩
    case measure=>simp [intOf];omega
   | false=>
    rw [if_neg (by decide)] at h2
    by_cases hb:m * 10+d≤9223372036854775807
    ·have HN:Hid (z+p=qc0 qm2 (s.data.toList.drop (k+1))+(k+1)∧NumAt s p (k+1) (m * 10+d) false):=j4 ⟨by rw [h1,hr2];omega,hb,by rw [if_neg (by decide),hd,←h2]⟩
     have hcmp:¬(9223372036854775807 - ((s[k].toNat:Int) - 48)) / 10<(m:Int):=by omega
     have hdec:decide ((9223372036854775807 - ((s[k].toNat:Int) - 48)) / 10<(m:Int))=false:=decide_eq_false hcmp
     have hsum:(m:Int) * 10+((s[k].toNat:Int) - 48)≤9223372036854775807:=by omega
     have HQ:Hid ((m:Int) * 10+((s[k].toNat:Int) - 48)=((m * 10+d:Nat):Int)):=j4 (by omega)
     clear hr2 hd h1 h2 H hg hdi hdg hd9 hdd hb
     go_wp2_with fail
     go_round
     case rel=>exact ⟨k+1,m * 10+d,false,by omega,by omega,by go_num,by rw [q9 HQ],rfl,HN⟩
     case measure=>simp [intOf];omega
    ·have HN:Hid (z+p=qc0 qm2 (s.data.toList.drop (k+1))+(k+1)∧NumAt s p (k+1) m true):=j4 ⟨by rw [h1,hr2];omega,hm,by rw [if_pos rfl,hd,←h2];omega⟩
     have hcmp:(9223372036854775807 - ((s[k].toNat:Int) - 48)) / 10<(m:Int):=by omega
     have hdec:decide ((9223372036854775807 - ((s[k].toNat:Int) - 48)) / 10<(m:Int))=true:=decide_eq_true hcmp
     clear hr2 hd h1 h2 H hg hdi hdd hdg hd9 hb
     go_wp2_with fail
     go_round
     case rel=>exact ⟨k+1,m,true,by omega,by omega,by go_num,rfl,rfl,HN⟩
     case measure=>simp [intOf];omega
  ·obtain ⟨h1,hm,h2⟩:=q9 H
   have hzk:z+p=k:=by
    by_cases hlt:k<s.size
    ·have hg:qm2 s[k]=false:=by cases hg:qm2 s[k] with|false=>rfl|true=>exact absurd ⟨hlt,hg⟩ hgo
     have:=qg7 qm2 s.data.toList k (by omega) hg
     rw [h1,this];omega
    ·have:=qh8 qm2 s.data.toList k (by omega)
     rw [h1,this];omega
   rw [show k - p=z by omega,q9 HV] at h2
   have HG:∀hlt:k<s.size,¬(48≤s[k].toNat∧s[k].toNat≤57):=fun hlt h=>hgo ⟨hlt,by simp [qm2,vc8];omega⟩
   have HZ:Hid ((p+z:Nat)=k):=j4 (by omega)
   have hways:k=s.size∨∃hlt:k<s.size,(¬(48:Int)≤(s[k].toNat:Int))∨((48:Int)≤(s[k].toNat:Int)∧¬(s[k].toNat:Int)≤57):=by
    by_cases hlt:k<s.size
    ·right
     refine ⟨hlt, ?_⟩
     have:=HG hlt
     omega
    ·left;omega
   have hm':(m:Int)≤9223372036854775807:=by omega
   cases bad with
   | true=>
    rw [if_pos rfl] at h2
    have hr:=q9 HRF (by omega)
    clear HG hgo H h1 h2 hzk HRT HRF HR0 HV
    rcases hways with rfl|⟨hlt,hw|⟨hw1,hw2⟩⟩
    all_goals
     go_wp2_with fail
     refine bodyPost_ret (by simp [results,Tryz.results256,go_sem]<;>rfl) rfl ⟨?_, ?_⟩
     all_goals go_light
     ·first|rfl|(rw [hr];rfl)
     ·repeat' (first|exact vi6 _ _ _|refine Below.setCell ?_ (by simp) _)
   | false=>
    rw [if_neg (by decide)] at h2
    have hr:=q9 HRT (by omega)
    rw [q9 HZ,←h2] at hr
    clear HG hgo H h1 h2 hzk HRT HRF HR0 HV
    rcases hways with rfl|⟨hlt,hw|⟨hw1,hw2⟩⟩
    all_goals
     go_wp2_with fail
     refine bodyPost_ret (by simp [results,Tryz.results256,go_sem]<;>rfl) rfl ⟨?_, ?_⟩
     all_goals go_light
     ·first|rfl|(rw [hr];rfl)
     ·repeat' (first|exact vi6 _ _ _|refine Below.setCell ?_ (by simp) _)
end
end Go.Proofs.YtfkcaldjphakpaaGreatDoor
