/- The document's answer: the token that comes. The document's answer: the reader's tree, and its small steps. -/
import Derived.Test.YtfkcaldjphakpaaGreatDoorM13
import Derived.Test.YtfkcaldjphakpaaGreatDoorM02
set_option maxHeartbeats 8000000
namespace Go.Proofs.YtfkcaldjphakpaaGreatDoor
open Go.RowKit
section
theorem ve0 (t:Tk) (a z:Nat):∃k a' z' S n,rTk t a z=.agg #[.int .i64 k,.int .i64 a',.int .i64 z',.string S,.int .i64 n]:=by
 unfold rTk
 split<;>exact ⟨_,_,_,_,_,rfl⟩
theorem rTk_end (a z:Nat):rTk (qa2 0) a z=.agg #[.int .i64 0,.int .i64 a,.int .i64 z,.string ⟨#[]⟩,.int .i64 0]:=by
 simp [rTk,rK,rS,kwT,qa2,rtV]
 rfl
theorem rnext_any (s:ByteArray) (hs:s.size≤200) (p:Nat) (hp:p≤s.size) (w:World) :
  Calls Tryz.prog 213 #[.string s,.int .i64 p] w fun e w'=>e=.returned (rTk (qd8 s.data.toList p) (qe5 s.data.toList p) (qi1 s.data.toList p))∧Below w.heap.size w w':=by
 have hl:=qa5 s
 obtain ⟨z,hz⟩:∃z,qe5 s.data.toList p=z:=⟨_,rfl⟩
 have hz0:z=qc0 spU (s.data.toList.drop p)+p:=by rw [←hz];unfold qe5;omega
 obtain ⟨R,hR⟩:∃R,rTk (qd8 s.data.toList p) (qe5 s.data.toList p) (qi1 s.data.toList p)=R:=⟨_,rfl⟩
 have HRE:Hid (z=s.size→R=.agg #[.int .i64 0,.int .i64 s.size,.int .i64 s.size,.string ⟨#[]⟩,.int .i64 0]):=j4 fun h=>by
  rw [←hR]
  unfold qd8 qi1
  rw [hz,if_neg (by omega),if_neg (by omega),hl,h]
  exact rTk_end _ _
 have HRF:Hid (z<s.size→R=rTk (qf1 (s.data.toList.drop z)) z (z+qw3 (s.data.toList.drop z))):=j4 fun h=>by
  rw [←hR]
  unfold qd8 qi1
  rw [hz,if_pos (by omega),if_pos (by omega)]
 rw [hR]
 have HZ:=j4 hz0
 clear hR hz hz0
 go_enter Tryz.func213,Tryz.ntmps213
 go_wp2_with fail
 go_loop [1] (fun i=>∃k:Nat,p≤k∧k≤s.size∧i=.int .i64 k∧Hid (z=qc0 spU (s.data.toList.drop k)+k)) (fun i=>s.size - (intOf i).toNat)
 case atStart=>exact ⟨p,Nat.le_refl _,hp,rfl,HZ⟩
 case round=>
  obtain ⟨k,hpk,hk,rfl,hr⟩:=hrel
  by_cases hgo:∃hlt:k<s.size,spU s[k]=true
  ·obtain ⟨hlt,hg⟩:=hgo
   have hr2:=qf3 spU s.data.toList k (by omega) hg
   have HR:Hid (z=qc0 spU (s.data.toList.drop (k+1))+(k+1)):=j4 (by rw [q9 hr,hr2];omega)
   have hc:(s[k].toNat:Int)=32∨(s[k].toNat:Int)=9∨(s[k].toNat:Int)=10:=by
    unfold spU spB at hg
    simpa [or_assoc] using hg
   clear hr2 hr hg HRE HRF
   rcases hc with hc|hc|hc
   all_goals
    go_wp2_with fail
    go_round
    case rel=>exact ⟨k+1,by omega,by omega,by go_num,HR⟩
    case measure=>simp [intOf];omega
  ·have hzk:z=k:=by
    by_cases hlt:k<s.size
    ·have hg:spU s[k]=false:=by cases hg:spU s[k] with|false=>rfl|true=>exact absurd ⟨hlt,hg⟩ hgo
     have:=qg7 spU s.data.toList k (by omega) hg
     rw [q9 hr,this];omega
    ·have:=qh8 spU s.data.toList k (by omega)
     rw [q9 hr,this];omega
   by_cases hlt:k<s.size
   ·have hrr:=q9 HRF (by omega)
    rw [hzk] at hrr
    have hg:spU s[k]=false:=by cases hg:spU s[k] with|false=>rfl|true=>exact absurd ⟨hlt,hg⟩ hgo
    have hn:((s[k].toNat:Int)==32)=false∧((s[k].toNat:Int)==9)=false∧((s[k].toNat:Int)==10)=false:=by
     unfold spU spB at hg
     simpa [and_assoc] using hg
    obtain ⟨n1,n2,n3⟩:=hn
    have hne:((k:Int)==(s.size:Int))=false:=beq_eq_false_iff_ne.2 (by omega)
    have hd:s.data.toList.drop k=s[k]::s.data.toList.drop (k+1):=by
     rw [List.drop_eq_getElem_cons (by rw [qa5];exact hlt),qb3 s k hlt]
    have hf1:qf1 (s.data.toList.drop k)=if vc0 s[k] then qk2 (s.data.toList.drop k) else if qm2 s[k] then qr8 (s.data.toList.drop k) else if s[k]==39 then qj4 (s.data.toList.drop k) else qa2 (qr3 (s.data.toList.drop k)):=by rw [hd];rfl
    have hf2:qw3 (s.data.toList.drop k)=if vc0 s[k] then qb8 (s.data.toList.drop k) else if qm2 s[k] then qc0 qm2 (s.data.toList.drop k) else if s[k]==39 then qu7 (s.data.toList.drop k) else qt9 (s.data.toList.drop k):=by rw [hd];rfl
    rw [hf1,hf2] at hrr
    clear hf1 hf2 hd hg hgo hr HRE HRF HZ
    cases hb:vc0 s[k] with
    | true=>
     rw [hb,if_pos rfl,if_pos rfl] at hrr
     obtain ⟨q1,q2,q3,q4,q5,hq⟩:=ve0 (qk2 (s.data.toList.drop k)) k (k+qb8 (s.data.toList.drop k))
     have W:=rword_any s hs k hlt hb
     rw [hq] at hrr W
     have HW:=j4 W
     have Hb:=j4 hb
     cases hdg:qm2 s[k] with
     | true=>exact absurd hdg (by unfold qm2 vc8;unfold vc0 vd5 at hb;simp at hb ⊢;omega)
     | false=>
     have Hd:=j4 hdg
     clear W hb hdg hq
     go_wp2_with (first|(go_at_call 181;refine (qi6 _ _).mono ?_;rintro e w' ⟨rfl,rfl⟩;rw [show vd5 (s[k].toNat:Int)=true from q9 Hb])|(go_at_call 230;refine (qk9 _ _).mono ?_;rintro e w' ⟨rfl,rfl⟩;rw [show vc8 (s[k].toNat:Int)=false from q9 Hd])|(go_at_call 182;refine (q9 HW _).mono ?_;rintro e w1 ⟨rfl,hb1⟩;obtain ⟨hc,hf⟩:=qa9 hb1;have hz1:=hb1.size;have B1:=j4 hb1;clear hb1;have c0:w1.cell? ⟨w.heap.size,0,none⟩=some (.int .i64 0):=(hc _ 0 (by simp)).trans (by simp);have c1:w1.cell? ⟨w.heap.size,1,none⟩=some (.int .i64 0):=(hc _ 1 (by simp)).trans (by simp);have c2:w1.cell? ⟨w.heap.size,2,none⟩=some (.int .i64 0):=(hc _ 2 (by simp)).trans (by simp);have c3:w1.cell? ⟨w.heap.size,3,none⟩=some (.string ⟨#[]⟩):=(hc _ 3 (by simp)).trans (by simp);have c4:w1.cell? ⟨w.heap.size,4,none⟩=some (.int .i64 0):=(hc _ 4 (by simp)).trans (by simp)))
     refine bodyPost_ret (by simp [results,Tryz.results213,go_sem,c0,c1,c2,c3,c4]<;>rfl) rfl ⟨?_, ?_⟩
     all_goals go_light
     ·first|rfl|(rw [hrr])
     ·repeat' (first|exact qd0 (q9 B1)|refine Below.setCell ?_ (by simp) _)
    | false=>
     simp only [hb,Bool.false_eq_true,if_false] at hrr
     have Hb:=j4 hb
     cases hdg:qm2 s[k] with
     | true=>
      simp only [hdg,if_true] at hrr
      obtain ⟨q1,q2,q3,q4,q5,hq⟩:=ve0 (qr8 (s.data.toList.drop k)) k (k+qc0 qm2 (s.data.toList.drop k))
      have W:=jb7 s hs k hlt
      rw [hq] at hrr W
      have HW:=j4 W
      have Hd:=j4 hdg
      clear W hb hdg hq
      go_wp2_with (first|(go_at_call 181;refine (qi6 _ _).mono ?_;rintro e w' ⟨rfl,rfl⟩;rw [show vd5 (s[k].toNat:Int)=false from q9 Hb])|(go_at_call 230;refine (qk9 _ _).mono ?_;rintro e w' ⟨rfl,rfl⟩;rw [show vc8 (s[k].toNat:Int)=true from q9 Hd])|(go_at_call 256;refine (q9 HW _).mono ?_;rintro e w1 ⟨rfl,hb1⟩;obtain ⟨hc,hf⟩:=qa9 hb1;have hz1:=hb1.size;have B1:=j4 hb1;clear hb1;have c0:w1.cell? ⟨w.heap.size,0,none⟩=some (.int .i64 0):=(hc _ 0 (by simp)).trans (by simp);have c1:w1.cell? ⟨w.heap.size,1,none⟩=some (.int .i64 0):=(hc _ 1 (by simp)).trans (by simp);have c2:w1.cell? ⟨w.heap.size,2,none⟩=some (.int .i64 0):=(hc _ 2 (by simp)).trans (by simp);have c3:w1.cell? ⟨w.heap.size,3,none⟩=some (.string ⟨#[]⟩):=(hc _ 3 (by simp)).trans (by simp);have c4:w1.cell? ⟨w.heap.size,4,none⟩=some (.int .i64 0):=(hc _ 4 (by simp)).trans (by simp)))
      refine bodyPost_ret (by simp [results,Tryz.results213,go_sem,c0,c1,c2,c3,c4]<;>rfl) rfl ⟨?_, ?_⟩
      all_goals go_light
      ·first|rfl|(rw [hrr])
      ·repeat' (first|exact qd0 (q9 B1)|refine Below.setCell ?_ (by simp) _)
     | false=>
      simp only [hdg,Bool.false_eq_true,if_false] at hrr
      have Hd:=j4 hdg
      by_cases h39:s[k]=39
      ·have e39:(s[k]==39)=true:=by rw [h39];rfl
       simp only [e39,if_true] at hrr
       obtain ⟨q1,q2,q3,q4,q5,hq⟩:=ve0 (qj4 (s.data.toList.drop k)) k (k+qu7 (s.data.toList.drop k))
       have W:=rtext_any s hs k hlt
       rw [hq] at hrr W
       have HW:=j4 W
       have HQ9:Hid (((s[k].toNat:Int)==39)=true):=j4 (by rw [h39];decide)
       clear W hb hdg hq h39 e39
       go_wp2_with (first|(go_at_call 181;refine (qi6 _ _).mono ?_;rintro e w' ⟨rfl,rfl⟩;rw [show vd5 (s[k].toNat:Int)=false from q9 Hb])|(go_at_call 230;refine (qk9 _ _).mono ?_;rintro e w' ⟨rfl,rfl⟩;rw [show vc8 (s[k].toNat:Int)=false from q9 Hd];have hq9:=q9 HQ9)|(go_at_call 257;refine (q9 HW _).mono ?_;rintro e w1 ⟨rfl,hb1⟩;obtain ⟨hc,hf⟩:=qa9 hb1;have hz1:=hb1.size;have B1:=j4 hb1;clear hb1;have c0:w1.cell? ⟨w.heap.size,0,none⟩=some (.int .i64 0):=(hc _ 0 (by simp)).trans (by simp);have c1:w1.cell? ⟨w.heap.size,1,none⟩=some (.int .i64 0):=(hc _ 1 (by simp)).trans (by simp);have c2:w1.cell? ⟨w.heap.size,2,none⟩=some (.int .i64 0):=(hc _ 2 (by simp)).trans (by simp);have c3:w1.cell? ⟨w.heap.size,3,none⟩=some (.string ⟨#[]⟩):=(hc _ 3 (by simp)).trans (by simp);have c4:w1.cell? ⟨w.heap.size,4,none⟩=some (.int .i64 0):=(hc _ 4 (by simp)).trans (by simp)))
       refine bodyPost_ret (by simp [results,Tryz.results213,go_sem,c0,c1,c2,c3,c4]<;>rfl) rfl ⟨?_, ?_⟩
       all_goals go_light
       ·first|rfl|(rw [hrr])
       ·repeat' (first|exact qd0 (q9 B1)|refine Below.setCell ?_ (by simp) _)
      ·have e39:(s[k]==39)=false:=by simpa using h39
       simp only [e39,Bool.false_eq_true,if_false] at hrr
       obtain ⟨q1,q2,q3,q4,q5,hq⟩:=ve0 (qa2 (qr3 (s.data.toList.drop k))) k (k+qt9 (s.data.toList.drop k))
       have W:=rsign_any s hs k hlt
       rw [hq] at hrr W
       have HW:=j4 W
       have HQ9:Hid (((s[k].toNat:Int)==39)=false):=j4 (beq_eq_false_iff_ne.2 fun e=>h39 (UInt8.toNat_inj.1 (by show s[k].toNat=39;omega)))
       clear W hb hdg hq h39 e39
       go_wp2_with (first|(go_at_call 181;refine (qi6 _ _).mono ?_;rintro e w' ⟨rfl,rfl⟩;rw [show vd5 (s[k].toNat:Int)=false from q9 Hb])|(go_at_call 230;refine (qk9 _ _).mono ?_;rintro e w' ⟨rfl,rfl⟩;rw [show vc8 (s[k].toNat:Int)=false from q9 Hd];have hq9:=q9 HQ9)|(go_at_call 258;refine (q9 HW _).mono ?_;rintro e w1 ⟨rfl,hb1⟩;obtain ⟨hc,hf⟩:=qa9 hb1;have hz1:=hb1.size;have B1:=j4 hb1;clear hb1;have c0:w1.cell? ⟨w.heap.size,0,none⟩=some (.int .i64 0):=(hc _ 0 (by simp)).trans (by simp);have c1:w1.cell? ⟨w.heap.size,1,none⟩=some (.int .i64 0):=(hc _ 1 (by simp)).trans (by simp);have c2:w1.cell? ⟨w.heap.size,2,none⟩=some (.int .i64 0):=(hc _ 2 (by simp)).trans (by simp);have c3:w1.cell? ⟨w.heap.size,3,none⟩=some (.string ⟨#[]⟩):=(hc _ 3 (by simp)).trans (by simp);have c4:w1.cell? ⟨w.heap.size,4,none⟩=some (.int .i64 0):=(hc _ 4 (by simp)).trans (by simp)))
       refine bodyPost_ret (by simp [results,Tryz.results213,go_sem,c0,c1,c2,c3,c4]<;>rfl) rfl ⟨?_, ?_⟩
       all_goals go_light
       ·first|rfl|(rw [hrr])
       ·repeat' (first|exact qd0 (q9 B1)|refine Below.setCell ?_ (by simp) _)
   ·have hks:k=s.size:=by omega
    have hrr:=q9 HRE (by omega)
    clear hr hgo HRE HRF HZ
    subst hks
    go_wp2_with fail
    refine bodyPost_ret (by simp [results,Tryz.results213,go_sem]<;>rfl) rfl ⟨?_, ?_⟩
    all_goals go_light
    ·first|rfl|(rw [hrr])
    ·repeat' (first|exact (Below.refl _ _).alloc (Nat.le_refl _) _|refine Below.setCell ?_ (by simp) _)
end
section
structure TrC (w:World) (rb:Nat) (nv:Value) (s:ByteArray) (k a z:Int) (S:ByteArray) (n op er at':Int):Prop where
 lt:rb<w.heap.size
 c0:w.cell? ⟨rb,0,none⟩=some nv
 c1:w.cell? ⟨rb,1,none⟩=some (.string s)
 c2:w.cell? ⟨rb,2,none⟩=some (.int .i64 k)
 c3:w.cell? ⟨rb,3,none⟩=some (.int .i64 a)
 c4:w.cell? ⟨rb,4,none⟩=some (.int .i64 z)
 c5:w.cell? ⟨rb,5,none⟩=some (.string S)
 c6:w.cell? ⟨rb,6,none⟩=some (.int .i64 n)
 c7:w.cell? ⟨rb,7,none⟩=some (.int .i64 op)
 c8:w.cell? ⟨rb,8,none⟩=some (.int .i64 er)
 c9:w.cell? ⟨rb,9,none⟩=some (.int .i64 at')
 fz:∀j,w.frozen? ⟨rb,j,none⟩=false
theorem qu9 {w:World} {rb:Nat} {nv:Value} {s:ByteArray} {k a z:Int} {S:ByteArray} {n op er at':Int} (h:TrC w rb nv s k a z S n op er at') (kind:Int) (X:ByteArray) :
  Calls Tryz.prog 215 #[.pointer (some ⟨rb,0,none⟩),.int .i64 kind,.string X] w fun e w'=>e=.returned (.bool (k==kind&&(S.toList==X.toList)))∧w'=w:=by
 obtain ⟨lt,c0,c1,c2,c3,c4,c5,c6,c7,c8,c9,fz⟩:=h
 cases hk:(k==kind)
 all_goals
  go_enter Tryz.func215,Tryz.ntmps215
  go_wp2_with fail
  all_goals (go_ret;exact ⟨rfl,rfl⟩)
theorem qs9 {w:World} {rb:Nat} {nv:Value} {s:ByteArray} {k a z:Int} {S:ByteArray} {n op at':Int} (h:TrC w rb nv s k a z S n op 0 at') (er pl:Int) :
  Calls Tryz.prog 174 #[.pointer (some ⟨rb,0,none⟩),.int .i64 er,.int .i64 pl] w fun e w'=>e=.returned (.tuple #[])∧TrC w' rb nv s 1 a 0 ⟨#[]⟩ 0 op er pl∧Kept rb w w':=by
 obtain ⟨lt,c0,c1,c2,c3,c4,c5,c6,c7,c8,c9,fz⟩:=h
 go_enter Tryz.func174,Tryz.ntmps174
 go_wp2_with fail
 go_end0
 refine ⟨rfl,⟨by simpa using lt, ?_, ?_, ?_, ?_, ?_, ?_, ?_, ?_, ?_, ?_,fun j=>?_⟩,(((((((Kept.refl rb w).setCell 8 _).setCell 9 _).setCell 2 _).setCell 3 _).setCell 4 _).setCell 5 _).setCell 6 _⟩
 all_goals simp [go_sem,c0,c1,c2,c3,c4,c5,c6,c7,c8,c9,fz]
theorem vh2 {w:World} {rb:Nat} {nv:Value} {s:ByteArray} {k a z:Int} {S:ByteArray} {n op er at':Int} (h:TrC w rb nv s k a z S n op er at') (he:er≠0) (er' pl:Int) :
  Calls Tryz.prog 174 #[.pointer (some ⟨rb,0,none⟩),.int .i64 er',.int .i64 pl] w fun e w'=>e=.returned (.tuple #[])∧TrC w' rb nv s 1 a 0 ⟨#[]⟩ 0 op er at'∧Kept rb w w':=by
 obtain ⟨lt,c0,c1,c2,c3,c4,c5,c6,c7,c8,c9,fz⟩:=h
 have he':(er==0)=false:=beq_eq_false_iff_ne.2 he
 clear he
 go_enter Tryz.func174,Tryz.ntmps174
 go_wp2_with fail
 go_end0
 refine ⟨rfl,⟨by simpa using lt, ?_, ?_, ?_, ?_, ?_, ?_, ?_, ?_, ?_, ?_,fun j=>?_⟩,(((((Kept.refl rb w).setCell 2 _).setCell 3 _).setCell 4 _).setCell 5 _).setCell 6 _⟩
 all_goals simp [go_sem,c0,c1,c2,c3,c4,c5,c6,c7,c8,c9,fz]
end
end Go.Proofs.YtfkcaldjphakpaaGreatDoor
