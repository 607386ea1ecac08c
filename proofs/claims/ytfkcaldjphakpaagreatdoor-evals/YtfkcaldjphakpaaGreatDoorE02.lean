/- The contract of lex.number. The contract of lex.quoted. -/
import Derived.Test.YtfkcaldjphakpaaGreatDoorE00
import Derived.Test.YtfkcaldjphakpaaGreatDoorE01
import Derived.Lib.AtoiErrMem
import Derived.Laws.IdiomStrings
namespace Go.Proofs.YtfkcaldjphakpaaGreatDoor
open Go.RowKit
section
def qq6 (l:List UInt8):Tk:=if qh0 0 (l.take (qa4 qj7 l))≤9223372036854775807 then ⟨3,qh0 0 (l.take (qa4 qj7 l)),[]⟩ else j6 1
theorem digs_of (l:List UInt8):∀c∈l.take (qa4 qj7 l),48≤c.toNat∧c.toNat≤57:=by
 intro c hc
 have:=vf3 qj7 l c hc
 simp [qj7,va0] at this;omega
theorem parse_ok (s:ByteArray) (hs:s.size≤140737488355328) (v:Int) (h:Lib.parseIntB 64 s.data.toList=.ok v) (w:World) :
  Calls Tryz.prog 239 #[.string s,.int .i64 10,.int .i64 64] w fun e w'=>e=.returned (.tuple #[.int .i64 v,.nilIface])∧Below w.heap.size w w':=by
 refine (Tryz.strconv_ParseInt_10_at64_ok s (by omega) v h w).mono ?_
 rintro e w' ⟨rfl,rfl|⟨t,rfl⟩⟩
 ·exact ⟨rfl,Below.refl _ _⟩
 ·exact ⟨rfl,Lib.bytesWorld_below _ _ _⟩
theorem vw4 (s:ByteArray) (hs:s.size≤140737488355328) (h:Lib.parseIntB 64 s.data.toList=.range) (w:World) (hE:ErrOk w) :
  Calls Tryz.prog 239 #[.string s,.int .i64 10,.int .i64 64] w fun e w'=>(∃x t p,e=.returned (.tuple #[.int .i64 x,.iface t p]))∧Below w.heap.size w w':=by
 obtain ⟨_,ev,h2,h3⟩:=hE
 refine (Tryz.strconv_ParseInt_10_at64_range s (by omega) h ev w h2 h3).mono ?_
 rintro e w' ⟨N,rfl,_,_,hb⟩
 exact ⟨⟨_,_,_,rfl⟩,hb⟩
theorem jg4 (p:UInt8→Bool) (s:ByteArray) (h:0<s.size) (hp:p s[0]=true):qa4 p s.data.toList=qa4 p (s.data.toList.drop 1)+1:=by
 have:=qe7 p s.data.toList 0 (by rw [j4];exact h) hp
 rwa [List.drop_zero] at this
set_option maxHeartbeats 400000 in
theorem je4 (s:ByteArray) (h0:0<s.size) (hs:s.size≤140737488355328) (hd:qj7 s[0]=true) (w:World) (hE:ErrOk w) :
  Calls Tryz.prog 193 #[.string s] w fun e w'=>e=.returned (.tuple #[tkV (qq6 s.data.toList) 0,.int .i64 (qa4 qj7 s.data.toList)])∧Below w.heap.size w w':=by
 have hl:=j4 s
 have hp:=jg4 qj7 s h0 hd
 have hle:=qx0 qj7 s.data.toList
 have hdg:=digs_of s.data.toList
 have HD:Hid (qj7 s[0]=true):=hd
 clear hd
 obtain ⟨z,hz⟩:∃z,qa4 qj7 s.data.toList=z:=⟨_,rfl⟩
 have hz1:1≤z:=by omega
 have hzl:z≤s.size:=by omega
 have hxx:(s.extract 0 z).data.toList=s.data.toList.take z:=by rw [Lib.extract_data];simp
 have hpi:=va2 (s.data.toList.take z) (by intro h;have:=congrArg List.length h;rw [List.length_take,List.length_nil] at this;omega) (by rw [←hz];exact hdg)
 have HK:Hid (qq6 s.data.toList=if qh0 0 (s.data.toList.take z)≤9223372036854775807 then ⟨3,qh0 0 (s.data.toList.take z),[]⟩ else j6 1):=by rw [←hz];exact v7 rfl
 rw [hz] at hp ⊢
 have HP:=v7 hp
 have HX:=v7 hxx
 have HI:=v7 hpi
 have hEa:=fun o=>hE.alloc o
 have HE:=v7 hEa
 clear hdg hle hz hp hxx hpi hE hEa
 obtain ⟨v,hv⟩:∃v,qh0 0 (s.data.toList.take z)=v:=⟨_,rfl⟩
 rw [hv] at HK HI
 have HV:=v7 hv
 clear hv
 go_enter Tryz.func193,Tryz.ntmps193
 go_wp2_with fail
 go_loop [4] (fun i=>∃k:Nat,1≤k∧k≤s.size∧i=.int .i64 k∧Hid (z=qa4 qj7 (s.data.toList.drop k)+k)) (fun i=>s.size - (intOf i).toNat)
 case atStart=>exact ⟨1,Nat.le_refl _,by omega,rfl,HP⟩
 case round=>
  obtain ⟨k,hk1,hk,rfl,hr⟩:=hrel
  have more:∀hlt:k<s.size,qj7 s[k]=true→Hid (z=qa4 qj7 (s.data.toList.drop (k+1))+(k+1)):=fun hlt hg=>v7 (by
   have:=qe7 qj7 s.data.toList k (by omega) hg;rw [q9 hr,this];omega)
  have done1:∀hlt:k<s.size,qj7 s[k]=false→z=k:=fun hlt hg=>by
   have:=qf9 qj7 s.data.toList k (by omega) hg;rw [q9 hr,this];omega
  have done2:¬k<s.size→z=k:=fun hlt=>by
   have:=qg7 qj7 s.data.toList k (by omega);rw [q9 hr,this];omega
  clear hr
  by_cases hgo:∃hlt:k<s.size,qj7 s[k]=true
  ·obtain ⟨hlt,hg⟩:=hgo
   have HR:=more hlt hg
   have Hg:=v7 hg
   clear more done1 done2 hg
   go_wp2_with (go_at_call 192;refine (qi9 _ _).mono ?_;rintro e w' ⟨rfl,rfl⟩;rw [show va0 (s[k].toNat:Int)=true from q9 Hg])
   go_round
   case rel=>exact ⟨k+1,by omega,by omega,by go_num,HR⟩
   case measure=>simp [intOf];omega
  ·have hzk:z=k:=by
    by_cases hlt:k<s.size
    ·exact done1 hlt (by cases hg:qj7 s[k] with|false=>rfl|true=>exact absurd ⟨hlt,hg⟩ hgo)
    ·exact done2 hlt
   have Hg:Hid (∀hlt:k<s.size,qj7 s[k]=false):=v7 fun hlt=>by cases hg:qj7 s[k] with|false=>rfl|true=>exact absurd ⟨hlt,hg⟩ hgo
   clear more done1 done2 hgo
   subst hzk
   by_cases hv:v≤9223372036854775807
   ·rw [if_pos hv] at HK HI
    have HVV:=v7 hv
    clear hv
    by_cases hlt:z<s.size
    all_goals
     go_wp2_with (first|(go_at_call 192;refine (qi9 _ _).mono ?_;rintro e w' ⟨rfl,rfl⟩;rw [show va0 (s[z].toNat:Int)=false from q9 Hg hlt])|(go_at_call 239;refine (parse_ok _ (by simp;omega) v (by rw [q9 HX];exact q9 HI) _).mono ?_;rintro e w' ⟨rfl,hb⟩;obtain ⟨hc,hf⟩:=v9 hb;have hz:=hb.size))
     refine bodyPost_ret (by simp [results,Tryz.results193,go_sem,hc];rfl) rfl ⟨?_, ?_⟩
     all_goals go_light
     ·exact qs2 (by rw [q9 HK]) (by rw [q9 HK]) (by rw [q9 HK];rfl) rfl
     ·exact ((((qb5 hb).setCell (by simp) _).setCell (by simp) _).setCell (by simp) _).setCell (by simp) _
   ·rw [if_neg hv] at HK HI
    clear hv
    by_cases hlt:z<s.size
    all_goals
     go_wp2_with (first|(go_at_call 192;refine (qi9 _ _).mono ?_;rintro e w' ⟨rfl,rfl⟩;rw [show va0 (s[z].toNat:Int)=false from q9 Hg hlt])|(go_at_call 239;refine (vw4 _ (by simp;omega) (by rw [q9 HX];exact q9 HI) _ (q9 HE _)).mono ?_;rintro e w' ⟨⟨x,t,p,rfl⟩,hb⟩;obtain ⟨hc,hf⟩:=v9 hb;have hz:=hb.size))
     refine bodyPost_ret (by simp [results,Tryz.results193,go_sem,hc];rfl) rfl ⟨?_, ?_⟩
     all_goals go_light
     ·exact qs2 (by rw [q9 HK];rfl) (by rw [q9 HK];rfl) (by rw [q9 HK];rfl) rfl
     ·exact ((((qb5 hb).setCell (by simp) _).setCell (by simp) _).setCell (by simp) _).setCell (by simp) _
end
section
def qh3:List UInt8→Option (List UInt8×Nat)
 | []=>none
 | [c]=>if c==39 then some ([],1) else none
 | c::d::t=>
  if c==39 then (if d==39 then (qh3 t).map fun r=>(39::r.1,r.2+2) else some ([],1))
  else (qh3 (d::t)).map fun r=>(c::r.1,r.2+1)
def qh9 (l:List UInt8):Tk:=match qh3 (l.drop 1) with
 | some r=>⟨4,0,r.1⟩
 | none=>j6 1
def qt1 (l:List UInt8):Nat:=match qh3 (l.drop 1) with
 | some r=>r.2+1
 | none=>l.length
def QAt (l:List UInt8) (k:Nat) (xs:List UInt8):Prop:=qh3 (l.drop 1)=(qh3 (l.drop k)).map fun r=>(xs++r.1,r.2+(k - 1))
theorem drop2 (l:List UInt8) (k:Nat) (h:k+1<l.length):l.drop k=l[k]::l[k+1]::l.drop (k+2):=by
 rw [List.drop_eq_getElem_cons (by omega),List.drop_eq_getElem_cons (by omega)]
theorem drop1 (l:List UInt8) (k:Nat) (h:k+1=l.length):l.drop k=[l[k]]:=by
 rw [List.drop_eq_getElem_cons (by omega),List.drop_of_length_le (by omega)]
theorem QAt.start (l:List UInt8):QAt l 1 []:=by
 unfold QAt
 cases qh3 (l.drop 1)<;>simp
theorem QAt.over {l:List UInt8} {k:Nat} {xs:List UInt8} (h:QAt l k xs) (hk:l.length≤k):qh3 (l.drop 1)=none:=by
 unfold QAt at h;rw [h,List.drop_of_length_le hk];rfl
theorem QAt.close {l:List UInt8} {k:Nat} {xs:List UInt8} (h:QAt l k xs) (h1:1≤k) (hk:k<l.length) (hc:l[k]=39) (hn:∀h:k+1<l.length,l[k+1]≠39) :
  qh3 (l.drop 1)=some (xs,k):=by
 unfold QAt at h
 rw [h]
 by_cases h2:k+1<l.length
 ·have:=hn h2
  rw [drop2 l k h2,qh3,if_pos (by simp [hc]),if_neg (by simpa using this)];simp;omega
 ·rw [drop1 l k (by omega),qh3,if_pos (by simp [hc])];simp;omega
theorem QAt.two {l:List UInt8} {k:Nat} {xs:List UInt8} (h:QAt l k xs) (h1:1≤k) (hk:k+1<l.length) (hc:l[k]=39) (hd:l[k+1]=39):QAt l (k+2) (xs++[39]):=by
 unfold QAt at h ⊢
 rw [h,drop2 l k hk,qh3,if_pos (by simp [hc]),if_pos (by simp [hd])]
 cases qh3 (l.drop (k+2)) with
 | none=>rfl
 | some r=>simp;omega
theorem QAt.one {l:List UInt8} {k:Nat} {xs:List UInt8} (h:QAt l k xs) (h1:1≤k) (hk:k<l.length) (hc:l[k]≠39):QAt l (k+1) (xs++[l[k]]):=by
 unfold QAt at h ⊢
 rw [h]
 by_cases h2:k+1<l.length
 ·rw [drop2 l k h2,qh3,if_neg (by simpa using hc),List.drop_eq_getElem_cons h2]
  cases qh3 (l[k+1]::l.drop (k+1+1)) with
  | none=>rfl
  | some r=>simp;omega
 ·rw [drop1 l k (by omega),qh3,if_neg (by simpa using hc),List.drop_of_length_le (by omega)];rfl
theorem Tryz.info5u:(Tryz.prog.info? 5).map (fun i=>(i.zero,i.size,i.bytes))=some (some (.int .u8 0),1,1):=by kernel_rfl
theorem conv_own {w:World} {base:Nat} {v:Value} {l:List UInt8} (h:w.ownsRow base 5 1 v l.length (l.map fun c=>.int .u8 (c.toNat:Int))) :
  (convert 51 9 v).run Tryz.prog w=.ok (.string (BS l)) w:=by
 have h':=h
 obtain ⟨_,⟨rfl,hn⟩|⟨g,cap,cur,rfl,_⟩⟩:=h
 ·have:l=[]:=List.eq_nil_of_length_eq_zero hn
  subst this
  rw [run_convert_bytes_string w 51 9 5 none 0 0 Tryz.underlying51 Tryz.underlying5 Tryz.underlying9]
  simp [Conv.bytesToString]
  rfl
 ·refine run_convert_bytes_back w 51 9 5 ⟨g,0,none⟩ cap l Tryz.underlying51 Tryz.underlying5 Tryz.underlying9 fun j hj=>?_
  exact h'.cells rfl j _ (by simp [List.getElem?_eq_getElem hj])
end
end Go.Proofs.YtfkcaldjphakpaaGreatDoor
