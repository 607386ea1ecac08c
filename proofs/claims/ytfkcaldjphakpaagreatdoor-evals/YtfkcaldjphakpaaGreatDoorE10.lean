/- The document's answer: the token that comes. The document's answer: the reader's tree, and its small steps. -/
import Derived.Test.YtfkcaldjphakpaaGreatDoorWRe6
import Derived.Test.YtfkcaldjphakpaaGreatDoorE04
set_option maxHeartbeats 8000000
namespace Go.Proofs.YtfkcaldjphakpaaGreatDoor
open Go.RowKit
section
theorem va6 (t:Tk) (a z:Nat):∃k a' z' S n,rTk t a z=.agg #[.int .i64 k,.int .i64 a',.int .i64 z',.string S,.int .i64 n]:=by
 unfold rTk
 split<;>exact ⟨_,_,_,_,_,rfl⟩
theorem rTk_end (a z:Nat):rTk (j6 0) a z=.agg #[.int .i64 0,.int .i64 a,.int .i64 z,.string ⟨#[]⟩,.int .i64 0]:=by
 simp [rTk,rK,rS,kwT,j6,rtV]
 rfl
theorem rnext_any (s:ByteArray) (hs:s.size≤200) (p:Nat) (hp:p≤s.size) (w:World) :
  Calls Tryz.prog 213 #[.string s,.int .i64 p] w fun e w'=>e=.returned (rTk (qd3 s.data.toList p) (qe8 s.data.toList p) (qh8 s.data.toList p))∧Below w.heap.size w w':=by
 have hl:=j4 s
 obtain ⟨z,hz⟩:∃z,qe8 s.data.toList p=z:=⟨_,rfl⟩
 have hz0:z=qa4 spU (s.data.toList.drop p)+p:=by rw [←hz];unfold qe8;omega
 obtain ⟨R,hR⟩:∃R,rTk (qd3 s.data.toList p) (qe8 s.data.toList p) (qh8 s.data.toList p)=R:=⟨_,rfl⟩
 have HRE:Hid (z=s.size→R=.agg #[.int .i64 0,.int .i64 s.size,.int .i64 s.size,.string ⟨#[]⟩,.int .i64 0]):=v7 fun h=>by
  rw [←hR]
  unfold qd3 qh8
  rw [hz,if_neg (by omega),if_neg (by omega),hl,h]
  exact rTk_end _ _
 have HRF:Hid (z<s.size→R=rTk (qe4 (s.data.toList.drop z)) z (z+qu2 (s.data.toList.drop z))):=v7 fun h=>by
  rw [←hR]
  unfold qd3 qh8
  rw [hz,if_pos (by omega),if_pos (by omega)]
 rw [hR]
 have HZ:=v7 hz0
 clear hR hz hz0
 go_enter Tryz.func213,Tryz.ntmps213
 go_wp2_with fail
 go_loop [1] (fun i=>∃k:Nat,p≤k∧k≤s.size∧i=.int .i64 k∧Hid (z=qa4 spU (s.data.toList.drop k)+k)) (fun i=>s.size - (intOf i).toNat)
 case atStart=>exact ⟨p,Nat.le_refl _,hp,rfl,HZ⟩
 case round=>
  obtain ⟨k,hpk,hk,rfl,hr⟩:=hrel
  by_cases hgo:∃hlt:k<s.size,spU s[k]=true
  ·obtain ⟨hlt,hg⟩:=hgo
   have hr2:=qe7 spU s.data.toList k (by omega) hg
   have HR:Hid (z=qa4 spU (s.data.toList.drop (k+1))+(k+1)):=v7 (by rw [q9 hr,hr2];omega)
   have hc:(s[k].toNat:Int)=32∨(s[k].toNat:Int)=9∨(s[k].toNat:Int)=10:=by
    unfold spU spB at hg
    simpa [or_assoc] using hg
   clear hr2 hr hg HRE HRF
   rcases hc with hc|hc|hc
   all_goals
    go_wp2_with fail
    go_round
    case rel=>exact ⟨k+1,by omega,by omega,by go_num,HR⟩
    case measure=>simp [intOf];omega
  ·have hzk:z=k:=by
    by_cases hlt:k<s.size
    ·have hg:spU s[k]=false:=by cases hg:spU s[k] with|false=>rfl|true=>exact absurd ⟨hlt,hg⟩ hgo
     have:=qf9 spU s.data.toList k (by omega) hg
     rw [q9 hr,this];omega
    ·have:=qg7 spU s.data.toList k (by omega)
     rw [q9 hr,this];omega
   by_cases hlt:k<s.size
   ·have hrr:=q9 HRF (by omega)
    rw [hzk] at hrr
    have hg:spU s[k]=false:=by cases hg:spU s[k] with|false=>rfl|true=>exact absurd ⟨hlt,hg⟩ hgo
    have hn:((s[k].toNat:Int)==32)=false∧((s[k].toNat:Int)==9)=false∧((s[k].toNat:Int)==10)=false:=by
     unfold spU spB at hg
     simpa [and_assoc] using hg
    obtain ⟨n1,n2,n3⟩:=hn
    have hne:((k:Int)==(s.size:Int))=false:=beq_eq_false_iff_ne.2 (by omega)
    have hd:s.data.toList.drop k=s[k]::s.data.toList.drop (k+1):=by
     rw [List.drop_eq_getElem_cons (by rw [j4];exact hlt),j9 s k hlt]
    have hf1:qe4 (s.data.toList.drop k)=if qx9 s[k] then qi4 (s.data.toList.drop k) else if qj7 s[k] then qq6 (s.data.toList.drop k) else if s[k]==39 then qh9 (s.data.toList.drop k) else j6 (qp8 (s.data.toList.drop k)):=by rw [hd];rfl
    have hf2:qu2 (s.data.toList.drop k)=if qx9 s[k] then x5 (s.data.toList.drop k) else if qj7 s[k] then qa4 qj7 (s.data.toList.drop k) else if s[k]==39 then qt1 (s.data.toList.drop k) else qs7 (s.data.toList.drop k):=by rw [hd];rfl
    rw [hf1,hf2] at hrr
    clear hf1 hf2 hd hg hgo hr HRE HRF HZ
    cases hb:qx9 s[k] with
    | true=>
     rw [hb,if_pos rfl,if_pos rfl] at hrr
     obtain ⟨q1,q2,q3,q4,q5,hq⟩:=va6 (qi4 (s.data.toList.drop k)) k (k+x5 (s.data.toList.drop k))
     have W:=vr6 s hs k hlt hb
     rw [hq] at hrr W
     have HW:=v7 W
     have Hb:=v7 hb
     cases hdg:qj7 s[k] with
     | true=>exact absurd hdg (by unfold qj7 va0;unfold qx9 qx8 at hb;simp at hb ⊢;omega)
     | false=>
     have Hd:=v7 hdg
     clear W hb hdg hq
     go_wp2_with (first|(go_at_call 181;refine (qe6 _ _).mono ?_;rintro e w' ⟨rfl,rfl⟩;rw [show qx8 (s[k].toNat:Int)=true from q9 Hb])|(go_at_call 230;refine (qj3 _ _).mono ?_;rintro e w' ⟨rfl,rfl⟩;rw [show va0 (s[k].toNat:Int)=false from q9 Hd])|(go_at_call 182;refine (q9 HW _).mono ?_;rintro e w1 ⟨rfl,hb1⟩;obtain ⟨hc,hf⟩:=v9 hb1;have hz1:=hb1.size;have B1:=v7 hb1;clear hb1;have c0:w1.cell? ⟨w.heap.size,0,none⟩=some (.int .i64 0):=(hc _ 0 (by simp)).trans (by simp);have c1:w1.cell? ⟨w.heap.size,1,none⟩=some (.int .i64 0):=(hc _ 1 (by simp)).trans (by simp);have c2:w1.cell? ⟨w.heap.size,2,none⟩=some (.int .i64 0):=(hc _ 2 (by simp)).trans (by simp);have c3:w1.cell? ⟨w.heap.size,3,none⟩=some (.string ⟨#[]⟩):=(hc _ 3 (by simp)).trans (by simp);have c4:w1.cell? ⟨w.heap.size,4,none⟩=some (.int .i64 0):=(hc _ 4 (by simp)).trans (by simp)))
     refine bodyPost_ret (by simp [results,Tryz.results213,go_sem,c0,c1,c2,c3,c4]<;>rfl) rfl ⟨?_, ?_⟩
     all_goals go_light
     ·first|rfl|(rw [hrr])
     ·repeat' (first|exact qb5 (q9 B1)|refine Below.setCell ?_ (by simp) _)
    | false=>
     simp only [hb,Bool.false_eq_true,if_false] at hrr
     have Hb:=v7 hb
     cases hdg:qj7 s[k] with
     | true=>
      simp only [hdg,if_true] at hrr
      obtain ⟨q1,q2,q3,q4,q5,hq⟩:=va6 (qq6 (s.data.toList.drop k)) k (k+qa4 qj7 (s.data.toList.drop k))
      have W:=vx0 s hs k hlt
      rw [hq] at hrr W
      have HW:=v7 W
      have Hd:=v7 hdg
      clear W hb hdg hq
      go_wp2_with (first|(go_at_call 181;refine (qe6 _ _).mono ?_;rintro e w' ⟨rfl,rfl⟩;rw [show qx8 (s[k].toNat:Int)=false from q9 Hb])|(go_at_call 230;refine (qj3 _ _).mono ?_;rintro e w' ⟨rfl,rfl⟩;rw [show va0 (s[k].toNat:Int)=true from q9 Hd])|(go_at_call 256;refine (q9 HW _).mono ?_;rintro e w1 ⟨rfl,hb1⟩;obtain ⟨hc,hf⟩:=v9 hb1;have hz1:=hb1.size;have B1:=v7 hb1;clear hb1;have c0:w1.cell? ⟨w.heap.size,0,none⟩=some (.int .i64 0):=(hc _ 0 (by simp)).trans (by simp);have c1:w1.cell? ⟨w.heap.size,1,none⟩=some (.int .i64 0):=(hc _ 1 (by simp)).trans (by simp);have c2:w1.cell? ⟨w.heap.size,2,none⟩=some (.int .i64 0):=(hc _ 2 (by simp)).trans (by simp);have c3:w1.cell? ⟨w.heap.size,3,none⟩=some (.string ⟨#[]⟩):=(hc _ 3 (by simp)).trans (by simp);have c4:w1.cell? ⟨w.heap.size,4,none⟩=some (.int .i64 0):=(hc _ 4 (by simp)).trans (by simp)))
      refine bodyPost_ret (by simp [results,Tryz.results213,go_sem,c0,c1,c2,c3,c4]<;>rfl) rfl ⟨?_, ?_⟩
      all_goals go_light
      ·first|rfl|(rw [hrr])
      ·repeat' (first|exact qb5 (q9 B1)|refine Below.setCell ?_ (by simp) _)
     | false=>
      simp only [hdg,Bool.false_eq_true,if_false] at hrr
      have Hd:=v7 hdg
      by_cases h39:s[k]=39
      ·have e39:(s[k]==39)=true:=by rw [h39];rfl
       simp only [e39,if_true] at hrr
       obtain ⟨q1,q2,q3,q4,q5,hq⟩:=va6 (qh9 (s.data.toList.drop k)) k (k+qt1 (s.data.toList.drop k))
       have W:=rtext_any s hs k hlt
       rw [hq] at hrr W
       have HW:=v7 W
       have HQ9:Hid (((s[k].toNat:Int)==39)=true):=v7 (by rw [h39];decide)
       clear W hb hdg hq h39 e39
       go_wp2_with (first|(go_at_call 181;refine (qe6 _ _).mono ?_;rintro e w' ⟨rfl,rfl⟩;rw [show qx8 (s[k].toNat:Int)=false from q9 Hb])|(go_at_call 230;refine (qj3 _ _).mono ?_;rintro e w' ⟨rfl,rfl⟩;rw [show va0 (s[k].toNat:Int)=false from q9 Hd];have hq9:=q9 HQ9)|(go_at_call 257;refine (q9 HW _).mono ?_;rintro e w1 ⟨rfl,hb1⟩;obtain ⟨hc,hf⟩:=v9 hb1;have hz1:=hb1.size;have B1:=v7 hb1;clear hb1;have c0:w1.cell? ⟨w.heap.size,0,none⟩=some (.int .i64 0):=(hc _ 0 (by simp)).trans (by simp);have c1:w1.cell? ⟨w.heap.size,1,none⟩=some (.int .i64 0):=(hc _ 1 (by simp)).trans (by simp);have c2:w1.cell? ⟨w.heap.size,2,none⟩=some (.int .i64 0):=(hc _ 2 (by simp)).trans (by simp);have c3:w1.cell? ⟨w.heap.size,3,none⟩=some (.string ⟨#[]⟩):=(hc _ 3 (by simp)).trans (by simp);have c4:w1.cell? ⟨w.heap.size,4,none⟩=some (.int .i64 0):=(hc _ 4 (by simp)).trans (by simp)))
       refine bodyPost_ret (by simp [results,Tryz.results213,go_sem,c0,c1,c2,c3,c4]<;>rfl) rfl ⟨?_, ?_⟩
       all_goals go_light
       ·first|rfl|(rw [hrr])
       ·repeat' (first|exact qb5 (q9 B1)|refine Below.setCell ?_ (by simp) _)
      ·have e39:(s[k]==39)=false:=by simpa using h39
       simp only [e39,Bool.false_eq_true,if_false] at hrr
       obtain ⟨q1,q2,q3,q4,q5,hq⟩:=va6 (j6 (qp8 (s.data.toList.drop k))) k (k+qs7 (s.data.toList.drop k))
       have W:=rsign_any s hs k hlt
       rw [hq] at hrr W
       have HW:=v7 W
       have HQ9:Hid (((s[k].toNat:Int)==39)=false):=v7 (beq_eq_false_iff_ne.2 fun e=>h39 (UInt8.toNat_inj.1 (by show s[k].toNat=39;omega)))
       clear W hb hdg hq h39 e39
       go_wp2_with (first|(go_at_call 181;refine (qe6 _ _).mono ?_;rintro e w' ⟨rfl,rfl⟩;rw [show qx8 (s[k].toNat:Int)=false from q9 Hb])|(go_at_call 230;refine (qj3 _ _).mono ?_;rintro e w' ⟨rfl,rfl⟩;rw [show va0 (s[k].toNat:Int)=false from q9 Hd];have hq9:=q9 HQ9)|(go_at_call 258;refine (q9 HW _).mono ?_;rintro e w1 ⟨rfl,hb1⟩;obtain ⟨hc,hf⟩:=v9 hb1;have hz1:=hb1.size;have B1:=v7 hb1;clear hb1;have c0:w1.cell? ⟨w.heap.size,0,none⟩=some (.int .i64 0):=(hc _ 0 (by simp)).trans (by simp);have c1:w1.cell? ⟨w.heap.size,1,none⟩=some (.int .i64 0):=(hc _ 1 (by simp)).trans (by simp);have c2:w1.cell? ⟨w.heap.size,2,none⟩=some (.int .i64 0):=(hc _ 2 (by simp)).trans (by simp);have c3:w1.cell? ⟨w.heap.size,3,none⟩=some (.string ⟨#[]⟩):=(hc _ 3 (by simp)).trans (by simp);have c4:w1.cell? ⟨w.heap.size,4,none⟩=some (.int .i64 0):=(hc _ 4 (by simp)).trans (by simp)))
       refine bodyPost_ret (by simp [results,Tryz.results213,go_sem,c0,c1,c2,c3,c4]<;>rfl) rfl ⟨?_, ?_⟩
       all_goals go_light
       ·first|rfl|(rw [hrr])
       ·repeat' (first|exact qb5 (q9 B1)|refine Below.setCell ?_ (by simp) _)
   ·have hks:k=s.size:=by omega
    have hrr:=q9 HRE (by omega)
    clear hr hgo HRE HRF HZ
    subst hks
    go_wp2_with fail
    refine bodyPost_ret (by simp [results,Tryz.results213,go_sem]<;>rfl) rfl ⟨?_, ?_⟩
    all_goals go_light
    ·first|rfl|(rw [hrr])
    ·repeat' (first|exact (Below.refl _ _).alloc (Nat.le_refl _) _|refine Below.setCell ?_ (by simp) _)
end
section
structure TrC (w:World) (rb:Nat) (nv:Value) (s:ByteArray) (k a z:Int) (S:ByteArray) (n op er at':Int):Prop where
 lt:rb<w.heap.size
 c0:w.cell? ⟨rb,0,none⟩=some nv
 c1:w.cell? ⟨rb,1,none⟩=some (.string s)
 c2:w.cell? ⟨rb,2,none⟩=some (.int .i64 k)
 c3:w.cell? ⟨rb,3,none⟩=some (.int .i64 a)
 c4:w.cell? ⟨rb,4,none⟩=some (.int .i64 z)
 c5:w.cell? ⟨rb,5,none⟩=some (.string S)
 c6:w.cell? ⟨rb,6,none⟩=some (.int .i64 n)
 c7:w.cell? ⟨rb,7,none⟩=some (.int .i64 op)
 c8:w.cell? ⟨rb,8,none⟩=some (.int .i64 er)
 c9:w.cell? ⟨rb,9,none⟩=some (.int .i64 at')
 fz:∀j,w.frozen? ⟨rb,j,none⟩=false
theorem qt3 {w:World} {rb:Nat} {nv:Value} {s:ByteArray} {k a z:Int} {S:ByteArray} {n op er at':Int} (h:TrC w rb nv s k a z S n op er at') (kind:Int) (X:ByteArray) :
  Calls Tryz.prog 215 #[.pointer (some ⟨rb,0,none⟩),.int .i64 kind,.string X] w fun e w'=>e=.returned (.bool (k==kind&&(S.toList==X.toList)))∧w'=w:=by
 obtain ⟨lt,c0,c1,c2,c3,c4,c5,c6,c7,c8,c9,fz⟩:=h
 cases hk:(k==kind)
 all_goals
  go_enter Tryz.func215,Tryz.ntmps215
  go_wp2_with fail
  all_goals (go_ret;exact ⟨rfl,rfl⟩)
theorem qs0 {w:World} {rb:Nat} {nv:Value} {s:ByteArray} {k a z:Int} {S:ByteArray} {n op at':Int} (h:TrC w rb nv s k a z S n op 0 at') (er pl:Int) :
  Calls Tryz.prog 174 #[.pointer (some ⟨rb,0,none⟩),.int .i64 er,.int .i64 pl] w fun e w'=>e=.returned (.tuple #[])∧TrC w' rb nv s 1 a 0 ⟨#[]⟩ 0 op er pl∧Kept rb w w':=by
 obtain ⟨lt,c0,c1,c2,c3,c4,c5,c6,c7,c8,c9,fz⟩:=h
 go_enter Tryz.func174,Tryz.ntmps174
 go_wp2_with fail
 go_end0
 refine ⟨rfl,⟨by simpa using lt, ?_, ?_, ?_, ?_, ?_, ?_, ?_, ?_, ?_, ?_,fun j=>?_⟩,(((((((Kept.refl rb w).setCell 8 _).setCell 9 _).setCell 2 _).setCell 3 _).setCell 4 _).setCell 5 _).setCell 6 _⟩
 all_goals simp [go_sem,c0,c1,c2,c3,c4,c5,c6,c7,c8,c9,fz]
theorem vc7 {w:World} {rb:Nat} {nv:Value} {s:ByteArray} {k a z:Int} {S:ByteArray} {n op er at':Int} (h:TrC w rb nv s k a z S n op er at') (he:er≠0) (er' pl:Int) :
  Calls Tryz.prog 174 #[.pointer (some ⟨rb,0,none⟩),.int .i64 er',.int .i64 pl] w fun e w'=>e=.returned (.tuple #[])∧TrC w' rb nv s 1 a 0 ⟨#[]⟩ 0 op er at'∧Kept rb w w':=by
 obtain ⟨lt,c0,c1,c2,c3,c4,c5,c6,c7,c8,c9,fz⟩:=h
 have he':(er==0)=false:=beq_eq_false_iff_ne.2 he
 clear he
 go_enter Tryz.func174,Tryz.ntmps174
 go_wp2_with fail
 go_end0
 refine ⟨rfl,⟨by simpa using lt, ?_, ?_, ?_, ?_, ?_, ?_, ?_, ?_, ?_, ?_,fun j=>?_⟩,(((((Kept.refl rb w).setCell 2 _).setCell 3 _).setCell 4 _).setCell 5 _).setCell 6 _⟩
 all_goals simp [go_sem,c0,c1,c2,c3,c4,c5,c6,c7,c8,c9,fz]
end
end Go.Proofs.YtfkcaldjphakpaaGreatDoor
