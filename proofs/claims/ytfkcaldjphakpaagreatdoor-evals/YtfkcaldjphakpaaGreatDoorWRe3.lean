/- The document's answer: a word's token. -/
import Derived.Test.YtfkcaldjphakpaaGreatDoorE09
import Derived.Test.YtfkcaldjphakpaaGreatDoorE03
namespace Go.Proofs.YtfkcaldjphakpaaGreatDoor
open Go.RowKit
def rtV (k a t:Int) (S:List UInt8) (n:Int):Value:=.agg #[.int .i64 k,.int .i64 a,.int .i64 t,.string (BS S),.int .i64 n]
def kwT (k:Int):List UInt8:=
 if k=5 then [65,78,68] else if k=6 then [79,82] else if k=7 then [78,79,84] else if k=8 then [84,82,85,69] else if k=9 then [70,65,76,83,69]
 else if k=10 then [66,69,84,87,69,69,78] else if k=11 then [73,78] else if k=12 then [76,73,75,69] else if k=13 then [69,83,67,65,80,69] else if k=14 then [73,83]
 else if k=15 then [78,85,76,76] else if k=16 then [61] else if k=17 then [60,62] else if k=18 then [60] else if k=19 then [60,61] else if k=20 then [62] else if k=21 then [62,61]
 else if k=22 then [43] else if k=23 then [45] else if k=24 then [42] else if k=25 then [47] else if k=26 then [40] else if k=27 then [41] else if k=28 then [44] else []
def rK (k:Int):Int:=if k≤4 then k else if k≤15 then 6 else 5
def rS (t:Tk):List UInt8:=if t.kind=2∨t.kind=4 then t.str else kwT t.kind
def rTk (t:Tk) (a z:Nat):Value:=if t.kind=1 then rtV 1 a 0 [] 0 else rtV (rK t.kind) a z (rS t) t.num
theorem kw_text {l:List UInt8} (h:kwK l≠2):kwT (kwK l)=l∧5≤kwK l∧kwK l≤15:=by
 by_cases e0:l=[65,78,68]
 ·subst e0;exact ⟨rfl,by decide,by decide⟩
 by_cases e1:l=[79,82]
 ·subst e1;exact ⟨rfl,by decide,by decide⟩
 by_cases e2:l=[78,79,84]
 ·subst e2;exact ⟨rfl,by decide,by decide⟩
 by_cases e3:l=[84,82,85,69]
 ·subst e3;exact ⟨rfl,by decide,by decide⟩
 by_cases e4:l=[70,65,76,83,69]
 ·subst e4;exact ⟨rfl,by decide,by decide⟩
 by_cases e5:l=[66,69,84,87,69,69,78]
 ·subst e5;exact ⟨rfl,by decide,by decide⟩
 by_cases e6:l=[73,78]
 ·subst e6;exact ⟨rfl,by decide,by decide⟩
 by_cases e7:l=[76,73,75,69]
 ·subst e7;exact ⟨rfl,by decide,by decide⟩
 by_cases e8:l=[69,83,67,65,80,69]
 ·subst e8;exact ⟨rfl,by decide,by decide⟩
 by_cases e9:l=[73,83]
 ·subst e9;exact ⟨rfl,by decide,by decide⟩
 by_cases e10:l=[78,85,76,76]
 ·subst e10;exact ⟨rfl,by decide,by decide⟩
 exact absurd (by unfold kwK;simp [e0,e1,e2,e3,e4,e5,e6,e7,e8,e9,e10]) h
theorem word_run {l:List UInt8} {c:UInt8} {t:List UInt8} (hl:l=c::t) (hb:qx9 c=true):x5 l=qa4 qs9 l:=by
 subst hl
 have:qs9 c=true:=by unfold qs9 goeB;unfold qx9 at hb;simp [hb]
 simp [x5,hb,qa4,this]
theorem rTk_kw {k:Int} {U:List UInt8} (h1:kwT k=U) (h2:5≤k) (h3:k≤15) (a z:Nat):rTk (j6 k) a z=rtV 6 a z U 0:=by
 unfold rTk
 rw [if_neg (show ¬(j6 k).kind=1 by show ¬k=1;omega)]
 have e1:rK (j6 k).kind=6:=by show rK k=6;unfold rK;rw [if_neg (by omega),if_pos h3]
 have e2:rS (j6 k)=U:=by
  unfold rS
  rw [if_neg (show ¬((j6 k).kind=2∨(j6 k).kind=4) by show ¬(k=2∨k=4);omega)]
  exact h1
 rw [e1,e2]
 rfl
theorem vz9 (S:List UInt8) (a z:Nat):rTk ⟨2,0,S⟩ a z=rtV 2 a z S 0:=by simp [rTk,rK,rS]
set_option maxHeartbeats 2000000 in
theorem vr6 (s:ByteArray) (hs:s.size≤200) (p:Nat) (hp:p<s.size) (hb:qx9 s[p]=true) (w:World) :
  Calls Tryz.prog 182 #[.string s,.int .i64 p] w fun e w'=>e=.returned (rTk (qi4 (s.data.toList.drop p)) p (p+x5 (s.data.toList.drop p)))∧Below w.heap.size w w':=by
 have hl:=j4 s
 have hd:s.data.toList.drop p=s[p]::s.data.toList.drop (p+1):=by
  rw [List.drop_eq_getElem_cons (by rw [j4];exact hp),j9 s p hp]
 have hwr:=word_run hd hb
 have hle:=qn9 (s.data.toList.drop p)
 rw [List.length_drop,j4] at hle
 obtain ⟨z,hz⟩:∃z,x5 (s.data.toList.drop p)=z:=⟨_,rfl⟩
 have hx:(s.extract p (p+z)).data.toList=(s.data.toList.drop p).take z:=by rw [Lib.extract_data];simp
 have hT:qi4 (s.data.toList.drop p)=if qn8 ((s.data.toList.drop p).take z)=2 then ⟨2,0,(s.data.toList.drop p).take z⟩ else j6 (qn8 ((s.data.toList.drop p).take z)):=by rw [←hz];rfl
 rw [hT,hz]
 rw [hz] at hwr hle
 obtain ⟨W,hW⟩:∃W,s.extract p (p+z)=W:=⟨_,rfl⟩
 rw [hW] at hx
 have hWs:W.size≤1000:=by
  have:=congrArg List.length hx
  rw [j4,List.length_take,List.length_drop,j4] at this
  omega
 rw [←hx]
 have CAP:=v7 (rcap_any W hWs)
 obtain ⟨U,hU⟩:∃U,Lib.toUpperA W.data.toList=U:=⟨_,rfl⟩
 have hK:qn8 W.data.toList=kwK U:=by unfold qn8;rw [hU]
 rw [hU] at CAP
 rw [hK]
 have KEY:Hid (∀w,Calls Tryz.prog 232 #[.string (BS U)] w fun e w'=>e=.returned (.bool (kwK U != 2))∧w'=w):=v7 fun w=>vq6 (BS U) w
 have HWZ:=v7 hW
 have HR0:Hid (z=qa4 qs9 (s.data.toList.drop p)+0):=v7 (by omega)
 obtain ⟨kk,hkk⟩:∃kk,(kwK U != 2)=kk:=⟨_,rfl⟩
 rw [hkk] at KEY
 obtain ⟨R,hR⟩:∃R,rTk (if kwK U=2 then ⟨2,0,W.data.toList⟩ else j6 (kwK U)) p (p+z)=R:=⟨_,rfl⟩
 rw [hR]
 have HRT:Hid (kk=true→R=rtV 6 p (p+z:Nat) U 0):=v7 fun e=>by
  have hne:kwK U≠2:=by rw [e] at hkk;simpa using hkk
  rw [if_neg hne] at hR
  obtain ⟨q1,q2,q3⟩:=kw_text hne
  rw [←hR,rTk_kw q1 q2 q3]
 have HRF:Hid (kk=false→R=rtV 2 p (p+z:Nat) W.data.toList 0):=v7 fun e=>by
  have hne:kwK U=2:=by rw [e] at hkk;simpa using hkk
  rw [if_pos hne] at hR
  rw [←hR,vz9]
 clear hR hd hwr hz hT hx hU hK hkk hb hW
 go_enter Tryz.func182,Tryz.ntmps182
 go_wp2_with fail
 go_loop [5] (fun i=>∃k:Nat,p≤k∧k≤s.size∧i=.int .i64 k∧Hid (z+p=qa4 qs9 (s.data.toList.drop k)+k)) (fun i=>s.size - (intOf i).toNat)
 case atStart=>exact ⟨p,Nat.le_refl _,by omega,rfl,v7 (by have:=q9 HR0;omega)⟩
 case round=>
  obtain ⟨k,hpk,hk,rfl,hr⟩:=hrel
  by_cases hgo:∃hlt:k<s.size,qs9 s[k]=true
  ·obtain ⟨hlt,hg⟩:=hgo
   have hr2:=qe7 qs9 s.data.toList k (by omega) hg
   have HR:Hid (z+p=qa4 qs9 (s.data.toList.drop (k+1))+(k+1)):=v7 (by rw [q9 hr,hr2];omega)
   clear hr2 hr CAP KEY
   cases hbg:qx9 s[k] with
   | true=>
    have Hb:=v7 hbg
    clear hg hbg
    go_wp2_with (first|(go_at_call 181;refine (qe6 _ _).mono ?_;rintro e w' ⟨rfl,rfl⟩;rw [show qx8 (s[k].toNat:Int)=true from q9 Hb]))
    go_round
    case rel=>exact ⟨k+1,by omega,by omega,by go_num,HR⟩
    case measure=>simp [intOf];omega
   | false=>
    have Hb:=v7 hbg
    cases hdg:qj7 s[k] with
    | true=>
     have Hd:=v7 hdg
     clear hg hbg hdg
     go_wp2_with (first|(go_at_call 181;refine (qe6 _ _).mono ?_;rintro e w' ⟨rfl,rfl⟩;rw [show qx8 (s[k].toNat:Int)=false from q9 Hb])|(go_at_call 230;refine (qj3 _ _).mono ?_;rintro e w' ⟨rfl,rfl⟩;rw [show va0 (s[k].toNat:Int)=true from q9 Hd]))
     go_round
     case rel=>exact ⟨k+1,by omega,by omega,by go_num,HR⟩
     case measure=>simp [intOf];omega
    | false=>
     have Hd:=v7 hdg
     have H46:Hid ((s[k].toNat:Int)=46):=v7 (by
      unfold qs9 goeB at hg
      unfold qx9 at hbg
      unfold qj7 at hdg
      rw [hbg,hdg] at hg
      simpa using hg)
     clear hg hbg hdg
     go_wp2_with (first|(go_at_call 181;refine (qe6 _ _).mono ?_;rintro e w' ⟨rfl,rfl⟩;rw [show qx8 (s[k].toNat:Int)=false from q9 Hb])|(go_at_call 230;refine (qj3 _ _).mono ?_;rintro e w' ⟨rfl,rfl⟩;rw [show va0 (s[k].toNat:Int)=false from q9 Hd];have h46:=q9 H46))
     go_round
     case rel=>exact ⟨k+1,by omega,by omega,by go_num,HR⟩
     case measure=>simp [intOf];omega
  ·have hzk:z+p=k:=by
    by_cases hlt:k<s.size
    ·have hg:qs9 s[k]=false:=by cases hg:qs9 s[k] with|false=>rfl|true=>exact absurd ⟨hlt,hg⟩ hgo
     have:=qf9 qs9 s.data.toList k (by omega) hg
     rw [q9 hr,this];omega
    ·have:=qg7 qs9 s.data.toList k (by omega)
     rw [q9 hr,this];omega
   have Hg:Hid (∀hlt:k<s.size,qx9 s[k]=false∧qj7 s[k]=false∧¬(s[k].toNat:Int)=46):=v7 fun hlt=>by
    have hg:qs9 s[k]=false:=by cases hg:qs9 s[k] with|false=>rfl|true=>exact absurd ⟨hlt,hg⟩ hgo
    unfold qs9 goeB at hg
    simp only [Bool.or_eq_false_iff,beq_eq_false_iff_ne] at hg
    exact ⟨hg.1.1,hg.1.2,hg.2⟩
   have HW2:Hid (s.extract p k=W):=v7 (by rw [←hzk,Nat.add_comm z p];exact q9 HWZ)
   have HZ:Hid (z+p=k):=v7 hzk
   clear hr hgo hzk HWZ HR0
   cases kk with
   | true=>
    by_cases hlt:k<s.size
    all_goals
     go_wp2_with (first|(go_at_call 181;refine (qe6 _ _).mono ?_;rintro e w' ⟨rfl,rfl⟩;rw [show qx8 (s[k].toNat:Int)=false from (q9 Hg hlt).1])|(go_at_call 230;refine (qj3 _ _).mono ?_;rintro e w' ⟨rfl,rfl⟩;rw [show va0 (s[k].toNat:Int)=false from (q9 Hg hlt).2.1];have h46:=(q9 Hg hlt).2.2)|(go_at_call 231;rw [q9 HW2];refine (q9 CAP _).mono ?_;rintro e w1 ⟨rfl,hb1⟩;obtain ⟨hc,hf⟩:=v9 hb1;have hz1:=hb1.size;have B1:=v7 hb1;clear hb1;have c0:w1.cell? ⟨w.heap.size,0,none⟩=some (.int .i64 0):=(hc _ 0 (by simp;omega)).trans (by rw [World.cell?_alloc_past _ _ _ (by simp)];simp);have c1:w1.cell? ⟨w.heap.size,1,none⟩=some (.int .i64 0):=(hc _ 1 (by simp;omega)).trans (by rw [World.cell?_alloc_past _ _ _ (by simp)];simp);have c2:w1.cell? ⟨w.heap.size,2,none⟩=some (.int .i64 0):=(hc _ 2 (by simp;omega)).trans (by rw [World.cell?_alloc_past _ _ _ (by simp)];simp);have c3:w1.cell? ⟨w.heap.size,3,none⟩=some (.string ⟨#[]⟩):=(hc _ 3 (by simp;omega)).trans (by rw [World.cell?_alloc_past _ _ _ (by simp)];simp);have c4:w1.cell? ⟨w.heap.size,4,none⟩=some (.int .i64 0):=(hc _ 4 (by simp;omega)).trans (by rw [World.cell?_alloc_past _ _ _ (by simp)];simp))|(go_at_call 232;refine (q9 KEY _).mono ?_;rintro e w2 ⟨rfl,rfl⟩))
     refine bodyPost_ret (by simp [results,Tryz.results182,go_sem,c0,c1,c2,c3,c4]<;>rfl) rfl ⟨?_, ?_⟩
     all_goals go_light
     ·rw [q9 HRT trivial,show ((p+z:Nat):Int)=(k:Int) by have:=q9 HZ;omega]
      rfl
     ·exact (((((((qb5 (qb5 (q9 B1))).setCell (by simp) _).setCell (by simp) _).setCell (by simp) _).setCell (by simp) _).setCell (by simp) _).setCell (by simp) _).setCell (by simp) _
   | false=>
    by_cases hlt:k<s.size
    all_goals
     go_wp2_with (first|(go_at_call 181;refine (qe6 _ _).mono ?_;rintro e w' ⟨rfl,rfl⟩;rw [show qx8 (s[k].toNat:Int)=false from (q9 Hg hlt).1])|(go_at_call 230;refine (qj3 _ _).mono ?_;rintro e w' ⟨rfl,rfl⟩;rw [show va0 (s[k].toNat:Int)=false from (q9 Hg hlt).2.1];have h46:=(q9 Hg hlt).2.2)|(go_at_call 231;rw [q9 HW2];refine (q9 CAP _).mono ?_;rintro e w1 ⟨rfl,hb1⟩;obtain ⟨hc,hf⟩:=v9 hb1;have hz1:=hb1.size;have B1:=v7 hb1;clear hb1;have c0:w1.cell? ⟨w.heap.size,0,none⟩=some (.int .i64 0):=(hc _ 0 (by simp;omega)).trans (by rw [World.cell?_alloc_past _ _ _ (by simp)];simp);have c1:w1.cell? ⟨w.heap.size,1,none⟩=some (.int .i64 0):=(hc _ 1 (by simp;omega)).trans (by rw [World.cell?_alloc_past _ _ _ (by simp)];simp);have c2:w1.cell? ⟨w.heap.size,2,none⟩=some (.int .i64 0):=(hc _ 2 (by simp;omega)).trans (by rw [World.cell?_alloc_past _ _ _ (by simp)];simp);have c3:w1.cell? ⟨w.heap.size,3,none⟩=some (.string ⟨#[]⟩):=(hc _ 3 (by simp;omega)).trans (by rw [World.cell?_alloc_past _ _ _ (by simp)];simp);have c4:w1.cell? ⟨w.heap.size,4,none⟩=some (.int .i64 0):=(hc _ 4 (by simp;omega)).trans (by rw [World.cell?_alloc_past _ _ _ (by simp)];simp))|(go_at_call 232;refine (q9 KEY _).mono ?_;rintro e w2 ⟨rfl,rfl⟩))
     refine bodyPost_ret (by simp [results,Tryz.results182,go_sem,c0,c1,c2,c3,c4]<;>rfl) rfl ⟨?_, ?_⟩
     all_goals go_light
     ·rw [q9 HRF trivial,show ((p+z:Nat):Int)=(k:Int) by have:=q9 HZ;omega]
      rfl
     ·exact (((((qb5 (qb5 (q9 B1))).setCell (by simp) _).setCell (by simp) _).setCell (by simp) _).setCell (by simp) _).setCell (by simp) _
end Go.Proofs.YtfkcaldjphakpaaGreatDoor
