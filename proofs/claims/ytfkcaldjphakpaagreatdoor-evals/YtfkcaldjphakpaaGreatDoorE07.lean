/- The contracts of lex.Next and lex.IsName. digits. -/
import Derived.Test.YtfkcaldjphakpaaGreatDoorE03
import Derived.Laws.IdiomStrings
import Derived.Laws.Concat
namespace Go.Proofs.YtfkcaldjphakpaaGreatDoor
open Go.RowKit
section
theorem ja6 {t:Tk} {p p' z z':Int} (hp:p=p') (hz:z=z') :
  Ending.returned (.tuple #[.agg #[.int .i64 t.kind,.int .i64 p,.int .i64 t.num,.string (BS t.str)],.int .i64 z])=.returned (.tuple #[tkV t p',.int .i64 z']):=by
 rw [hp,hz];rfl
set_option maxHeartbeats 400000 in
theorem next_any (s:ByteArray) (hs:s.size≤140737488355328) (f:Nat) (hf:f≤s.size) (w:World) (hE:ErrOk w) :
  Calls Tryz.prog 100 #[.string s,.int .i64 f] w fun e w'=>e=.returned (.tuple #[tkV (qd3 s.data.toList f) (qe8 s.data.toList f),.int .i64 (qh8 s.data.toList f)])∧Below w.heap.size w w':=by
 have hl:=j4 s
 have hle:=vp7 s.data.toList f (by omega)
 have HE:Hid (∀o,ErrOk (w.alloc o)):=v7 fun o=>hE.alloc o
 clear hE
 obtain ⟨A,hA⟩:∃a,qe8 s.data.toList f=a:=⟨_,rfl⟩
 have hT:qd3 s.data.toList f=if A<s.data.toList.length then qe4 (s.data.toList.drop A) else j6 0:=by rw [←hA];rfl
 have hZ:qh8 s.data.toList f=if A<s.data.toList.length then A+qu2 (s.data.toList.drop A) else s.data.toList.length:=by rw [←hA];rfl
 obtain ⟨T,hT'⟩:∃t,qd3 s.data.toList f=t:=⟨_,rfl⟩
 obtain ⟨Z,hZ'⟩:∃t,qh8 s.data.toList f=t:=⟨_,rfl⟩
 rw [hT'] at hT
 rw [hZ'] at hZ
 rw [hA] at hle
 rw [hA,hT',hZ']
 have HA:Hid (A=f+qa4 spU (s.data.toList.drop f)):=v7 (by rw [←hA];rfl)
 have HT:=v7 hT
 have HZ:=v7 hZ
 clear hT hZ hT' hZ' hA
 go_enter Tryz.func100,Tryz.ntmps100
 go_wp2_with fail
 go_loop [6] (fun i=>∃k:Nat,f≤k∧k≤s.size∧i=.int .i64 k∧Hid (A=qa4 spU (s.data.toList.drop k)+k)) (fun i=>s.size - (intOf i).toNat)
 case atStart=>exact ⟨f,Nat.le_refl _,hf,rfl,v7 (by rw [Nat.add_comm];exact q9 HA)⟩
 case round=>
  obtain ⟨k,hk1,hk,rfl,hr⟩:=hrel
  have more:∀hlt:k<s.size,spU s[k]=true→Hid (A=qa4 spU (s.data.toList.drop (k+1))+(k+1)):=fun hlt hg=>v7 (by
   have:=qe7 spU s.data.toList k (by omega) hg;rw [q9 hr,this];omega)
  have done1:∀hlt:k<s.size,spU s[k]=false→A=k:=fun hlt hg=>by
   have:=qf9 spU s.data.toList k (by omega) hg;rw [q9 hr,this];omega
  have done2:¬k<s.size→A=k:=fun hlt=>by
   have:=qg7 spU s.data.toList k (by omega);rw [q9 hr,this];omega
  clear hr
  by_cases hlt:k<s.size
  ·cases hg:spU s[k] with
   | true=>
    have HR:=more hlt hg
    have Hg:=v7 hg
    clear more done1 done2 hg
    go_wp2_with (go_at_call 143;refine (vb6 _ _).mono ?_;rintro e w' ⟨rfl,rfl⟩;rw [show spB (s[k].toNat:Int)=true from q9 Hg])
    go_round
    case rel=>exact ⟨k+1,by omega,by omega,by go_num,HR⟩
    case measure=>simp [intOf];omega
   | false=>
    have hA:=done1 hlt hg
    have Hg:=v7 hg
    clear more done1 done2 hg
    subst hA
    rw [if_pos (by omega)] at HT HZ
    have hx:(s.extract A s.size).data.toList=s.data.toList.drop A:=Lib.extract_to_end s A
    have hfl:=vn7 (s.data.toList.drop A) (by rw [List.length_drop];omega)
    rw [List.length_drop,hl] at hfl
    have HX:=v7 hx
    clear hx
    go_wp2_with (first|(go_at_call 143;refine (vb6 _ _).mono ?_;rintro e w' ⟨rfl,rfl⟩;rw [show spB (s[A].toNat:Int)=false from q9 Hg])|(go_at_call 144;refine (first_any _ (by simp;omega) (by simp;omega) _ (q9 HE _)).mono ?_;rintro e w' ⟨rfl,hb⟩;obtain ⟨hc,hfz⟩:=v9 hb;have hz:w.heap.size<w'.heap.size:=(by have:=hb.size;simp at this;omega);rw [q9 HX];simp only [tkV]))
    refine bodyPost_ret (by simp [results,Tryz.results100,go_sem,hc,hz];rfl) rfl ⟨?_, ?_⟩
    all_goals go_light
    ·rw [q9 HT,q9 HZ];exact ja6 rfl (by omega)
    ·exact (((((qb5 hb).setCell (by simp) _).setCell (by simp) _).setCell (by simp) _).setCell (by simp) _).alloc (by simp;omega) _
  ·have hA:=done2 hlt
   clear more done1 done2
   subst hA
   rw [if_neg (by omega)] at HT HZ
   go_wp2_with fail
   refine bodyPost_ret (by simp [results,Tryz.results100,go_sem];rfl) rfl ⟨?_, ?_⟩
   all_goals go_light
   ·rw [q9 HT,q9 HZ];exact ja6 (t:=j6 0) (by omega) (by omega)
   ·exact (Below.refl _ _).alloc (Nat.le_refl _) _
def qs8 (l:List UInt8):Bool:=decide (0<x5 l)&&decide (x5 l=l.length)&&(qn8 l==2)
theorem vv7 {l:List UInt8} (h:x5 l=l.length):∀c∈l,c.toNat<128:=by
 have:=vf9 l
 rw [h,List.take_length] at this;exact this
set_option maxHeartbeats 400000 in
theorem jd5 (s:ByteArray) (hs:s.size≤140737488355328) (w:World) :
  Calls Tryz.prog 105 #[.string s] w fun e w'=>e=.returned (.bool (qs8 s.data.toList))∧Below w.heap.size w w':=by
 have hm:s.size≤maxLen:=by unfold maxLen;omega
 have hl:=j4 s
 have hn:qs8 s.data.toList=(decide (0<x5 s.data.toList)&&decide (x5 s.data.toList=s.size)&&(qn8 s.data.toList==2)):=by unfold qs8;rw [hl]
 have ha:=fun h=>vv7 (l:=s.data.toList) h
 rw [hn]
 generalize hz:x5 s.data.toList=z at *
 generalize hk:qn8 s.data.toList=k at *
 have HZ:=v7 hz
 have HK:=v7 hk
 clear hz hk hn
 by_cases h0:0<z
 ·by_cases h1:z=s.size
  ·have HA:=v7 (ha (by omega))
   have h1':((z:Int)==(s.size:Int))=true:=beq_iff_eq.2 (by omega)
   have H1:=v7 h1
   clear ha h1
   go_enter Tryz.func105,Tryz.ntmps105
   go_wp2_with (first|(go_at_call 150;refine (qm5 _ hm _).mono ?_;rintro e w' ⟨rfl,rfl⟩;rw [q9 HZ])|(go_at_call 151;refine (qt6 _ hs (q9 HA) _).mono ?_;rintro e w' ⟨rfl,hb⟩;rw [q9 HK]))
   all_goals (go_ret;exact ⟨qc0 (by have:=q9 H1;simp_all),by assumption⟩)
  ·have h1':((z:Int)==(s.size:Int))=false:=beq_eq_false_iff_ne.2 (by omega)
   have H1:=v7 h1
   clear ha h1
   go_enter Tryz.func105,Tryz.ntmps105
   go_wp2_with (first|(go_at_call 150;refine (qm5 _ hm _).mono ?_;rintro e w' ⟨rfl,rfl⟩;rw [q9 HZ]))
   go_ret
   exact ⟨qc0 (by have:=q9 H1;simp [this]),Below.refl _ _⟩
 ·clear ha
  go_enter Tryz.func105,Tryz.ntmps105
  go_wp2_with (first|(go_at_call 150;refine (qm5 _ hm _).mono ?_;rintro e w' ⟨rfl,rfl⟩;rw [q9 HZ]))
  go_ret
  exact ⟨qc0 (by simp;omega),Below.refl _ _⟩
end
section
def dig (n:Nat):UInt8:=UInt8.ofNat (48+n % 10)
theorem BS_add (a b:List UInt8):BS a++BS b=BS (a++b):=by
 apply ByteArray.ext
 show (BS a++BS b).data=_
 rw [ByteArray.data_append]
 simp [BS]
end
end Go.Proofs.YtfkcaldjphakpaaGreatDoor
