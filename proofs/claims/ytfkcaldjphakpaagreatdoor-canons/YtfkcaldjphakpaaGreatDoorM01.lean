/- Contracts of lex.wordKind and lex.word. The contract of lex.number. The contract of lex.quoted. The contract of lex.quoted: the walk. -/
import Derived.Test.YtfkcaldjphakpaaGreatDoorM00
import Derived.Test.YtfkcaldjphakpaaGreatDoorShelf
import Derived.Lib.AtoiErrMem
import Derived.Laws.IdiomStrings
set_option maxHeartbeats 800000
set_option maxRecDepth 100000
namespace Go.Proofs.YtfkcaldjphakpaaGreatDoor
open Go.RowKit
section
def kwK (l:List UInt8):Int:=
 if l==[65,78,68] then 5 else if l==[79,82] then 6 else if l==[78,79,84] then 7 else if l==[84,82,85,69] then 8
 else if l==[70,65,76,83,69] then 9 else if l==[66,69,84,87,69,69,78] then 10 else if l==[73,78] then 11
 else if l==[76,73,75,69] then 12 else if l==[69,83,67,65,80,69] then 13 else if l==[73,83] then 14
 else if l==[78,85,76,76] then 15 else 2
def qy1 (l:List UInt8):Int:=kwK (Lib.toUpperA l)
theorem asciiAt {l:List UInt8} (h:∀c∈l,c.toNat<128):∀(j:Nat) (b:UInt8),l[j]?=some b→b.toNat<128:=
 fun _ _ hj=>h _ (List.mem_of_getElem? hj)
theorem vc5 (s:ByteArray) (hs:s.size≤140737488355328) (ha:∀c∈s.data.toList,c.toNat<128) (w:World) :
  Calls Tryz.prog 151 #[.string s] w fun e w'=>e=.returned (.int .i64 (qy1 s.data.toList))∧Below w.heap.size w w':=by
 have Ha:=j4 (asciiAt ha)
 clear ha
 unfold qy1
 obtain ⟨u,hu⟩:∃u,Lib.toUpperA s.data.toList=u:=⟨_,rfl⟩
 rw [hu]
 have Hu:=j4 hu
 clear hu
 go_enter Tryz.func151,Tryz.ntmps151
 go_wp2_with (go_at_call 202;refine (Tryz.strings_ToUpper_ascii _ _ hs (q9 Ha)).mono ?_;rintro e w' ⟨rfl,hb⟩;rw [q9 Hu])
 all_goals (go_ret;refine ⟨qg5 ?_,by assumption⟩;go_light;simp only [kwK, *,if_true,Bool.false_eq_true,if_false])
theorem goe_ascii {c:UInt8} (h:qu4 c=true):c.toNat<128:=by
 simp [qu4,goeB,vd5,vc8] at h;omega
theorem beg_ascii {c:UInt8} (h:vc0 c=true):c.toNat<128:=by
 simp [vc0,vd5] at h;omega
theorem vj9 (p:UInt8→Bool) (l:List UInt8):∀c∈l.take (qc0 p l),p c=true:=by
 induction l with
 | nil=>simp [qc0]
 | cons d t ih=>
  intro c hc
  by_cases hd:p d=true
  ·simp only [qc0,hd,if_true,List.take_succ_cons,List.mem_cons] at hc
   rcases hc with rfl|hc
   ·exact hd
   ·exact ih c hc
  ·simp [qc0,hd] at hc
theorem qt3 (l:List UInt8):qb8 l≤l.length:=by
 cases l with
 | nil=>simp [qb8]
 | cons c t=>have:=qz8 qu4 t;simp only [qb8];split<;>simp<;>omega
theorem jp3 (l:List UInt8):∀c∈l.take (qb8 l),c.toNat<128:=by
 cases l with
 | nil=>simp
 | cons d t=>
  intro c hc
  by_cases hd:vc0 d=true
  ·simp only [qb8,hd,if_true,List.take_succ_cons,List.mem_cons] at hc
   rcases hc with rfl|hc
   ·exact beg_ascii hd
   ·exact goe_ascii (vj9 qu4 t c hc)
  ·simp [qb8,hd] at hc
def qk2 (l:List UInt8):Tk:=if qy1 (l.take (qb8 l))=2 then ⟨2,0,l.take (qb8 l)⟩ else qa2 (qy1 (l.take (qb8 l)))
theorem qt1 {w:Tk} {k n:Int} {b:ByteArray} {z z':Int} (hk:k=w.kind) (hn:n=w.num) (hs:b=BS w.str) (hz:z=z') :
  Ending.returned (.tuple #[.agg #[.int .i64 k,.int .i64 0,.int .i64 n,.string b],.int .i64 z])=.returned (.tuple #[tkV w 0,.int .i64 z']):=by
 rw [hk,hn,hs,hz];rfl
theorem clone_any (s:ByteArray) (w:World) (hs:s.size≤281474976710656) :
  Calls Tryz.prog 39 #[.string s] w fun e w'=>e=.returned (.string s)∧Below w.heap.size w w':=by
 go_enter Tryz.func39,Tryz.ntmps39
 go_wp2_with (go_at_call 66;refine (Tryz.stringslite_Clone s _ hs).mono ?_;rintro e w1 ⟨rfl,hb1⟩)
 go_ret
 exact ⟨rfl,hb1⟩
theorem word_any (s:ByteArray) (hs:s.size≤140737488355328) (w:World) :
  Calls Tryz.prog 191 #[.string s] w fun e w'=>e=.returned (.tuple #[tkV (qk2 s.data.toList) 0,.int .i64 (qb8 s.data.toList)])∧Below w.heap.size w w':=by
 have hle:=qt3 s.data.toList
 rw [qa5] at hle
 have hx:(s.extract 0 (qb8 s.data.toList)).data.toList=s.data.toList.take (qb8 s.data.toList):=by rw [Lib.extract_data];simp
 have hm:s.size≤maxLen:=by unfold maxLen;omega
 have Ha:=j4 (jp3 s.data.toList)
 obtain ⟨z,hz⟩:∃z,qb8 s.data.toList=z:=⟨_,rfl⟩
 have Hk:Hid (qk2 s.data.toList=if qy1 (s.data.toList.take z)=2 then ⟨2,0,s.data.toList.take z⟩ else qa2 (qy1 (s.data.toList.take z))):=by rw [←hz];exact j4 rfl
 rw [hz] at hle hx Ha ⊢
 have Hx:=j4 hx
 have Hz:=j4 hz
 clear hx hz
 obtain ⟨k,hk⟩:∃k,qy1 (s.data.toList.take z)=k:=⟨_,rfl⟩
 have Hkk:=j4 hk
 clear hk
 by_cases h2:k=2
 ·have h2'':(k != 2)=false:=by simp [h2]
  have H2:=j4 h2
  clear h2
  go_enter Tryz.func191,Tryz.ntmps191
  go_wp2_with (first|(go_at_call 150;refine (vc6 _ hm _).mono ?_;rintro e w' ⟨rfl,rfl⟩;rw [q9 Hz])|(go_at_call 151;refine (vc5 _ (by simp;omega) (by rw [q9 Hx];exact q9 Ha) _).mono ?_;rintro e w' ⟨rfl,hb⟩;obtain ⟨hc,hf⟩:=qa9 hb;have hz:=hb.size;rw [q9 Hx,q9 Hkk])|(go_at_call 39;refine (clone_any _ _ (by simp;omega)).mono ?_;rintro e w2 ⟨rfl,hb2⟩;have hz1:w.heap.size<w'.heap.size:=(by simp at hz;omega);have hz2:w.heap.size<w2.heap.size:=(by have:=hb2.size;omega);have c0:w2.cell? ⟨w.heap.size,0,none⟩=some (.int .i64 0):=((qa9 hb2).1 _ 0 hz1).trans ((hc _ 0 (by simp)).trans (by simp));have c1:w2.cell? ⟨w.heap.size,1,none⟩=some (.int .i64 0):=((qa9 hb2).1 _ 1 hz1).trans ((hc _ 1 (by simp)).trans (by simp));have c2:w2.cell? ⟨w.heap.size,2,none⟩=some (.int .i64 0):=((qa9 hb2).1 _ 2 hz1).trans ((hc _ 2 (by simp)).trans (by simp));have c3:w2.cell? ⟨w.heap.size,3,none⟩=some (.string ⟨#[]⟩):=((qa9 hb2).1 _ 3 hz1).trans ((hc _ 3 (by simp)).trans (by simp));have z0:∀j,w2.frozen? ⟨w.heap.size,j,none⟩=false:=(fun j=>((qa9 hb2).2 _ j hz1).trans ((hf _ j (by simp)).trans (by simp)));have hB:=j4 (hb.trans (hb2.mono hb.size));clear hb hb2 hc hf hz))
  refine bodyPost_ret (by simp [results,Tryz.results191,go_sem,c0,c1,c2,c3];rfl) rfl ⟨?_, ?_⟩
  all_goals go_light
  ·exact qt1 (by rw [q9 Hk,q9 Hkk,if_pos (q9 H2)]) (by rw [q9 Hk,q9 Hkk,if_pos (q9 H2)]) (by rw [q9 Hk,q9 Hkk,if_pos (q9 H2),←q9 Hx];rfl) rfl
  ·exact ((((qd0 (q9 hB)).setCell (by simp) _).setCell (by simp) _).setCell (by simp) _).setCell (by simp) _
 ·have h2'':(k != 2)=true:=by simp [h2]
  have H2:=j4 h2
  clear h2
  go_enter Tryz.func191,Tryz.ntmps191
  go_wp2_with (first|(go_at_call 150;refine (vc6 _ hm _).mono ?_;rintro e w' ⟨rfl,rfl⟩;rw [q9 Hz])|(go_at_call 151;refine (vc5 _ (by simp;omega) (by rw [q9 Hx];exact q9 Ha) _).mono ?_;rintro e w' ⟨rfl,hb⟩;obtain ⟨hc,hf⟩:=qa9 hb;have hz:=hb.size;rw [q9 Hx,q9 Hkk]))
  refine bodyPost_ret (by simp [results,Tryz.results191,go_sem,hc];rfl) rfl ⟨?_, ?_⟩
  all_goals go_light
  ·exact qt1 (by rw [q9 Hk,q9 Hkk,if_neg (q9 H2)];rfl) (by rw [q9 Hk,q9 Hkk,if_neg (q9 H2)];rfl) (by rw [q9 Hk,q9 Hkk,if_neg (q9 H2)];rfl) rfl
  ·exact ((((qd0 hb).setCell (by simp) _).setCell (by simp) _).setCell (by simp) _).setCell (by simp) _
end
section
def qr8 (l:List UInt8):Tk:=if qi0 0 (l.take (qc0 qm2 l))≤9223372036854775807 then ⟨3,qi0 0 (l.take (qc0 qm2 l)),[]⟩ else qa2 1
theorem digs_of (l:List UInt8):∀c∈l.take (qc0 qm2 l),48≤c.toNat∧c.toNat≤57:=by
 intro c hc
 have:=vj9 qm2 l c hc
 simp [qm2,vc8] at this;omega
theorem parse_ok (s:ByteArray) (hs:s.size≤140737488355328) (v:Int) (h:Lib.parseIntB 64 s.data.toList=.ok v) (w:World) :
  Calls Tryz.prog 239 #[.string s,.int .i64 10,.int .i64 64] w fun e w'=>e=.returned (.tuple #[.int .i64 v,.nilIface])∧Below w.heap.size w w':=by
 refine (Tryz.strconv_ParseInt_10_at64_ok s (by omega) v h w).mono ?_
 rintro e w' ⟨rfl,rfl|⟨t,rfl⟩⟩
 ·exact ⟨rfl,Below.refl _ _⟩
 ·exact ⟨rfl,Lib.bytesWorld_below _ _ _⟩
theorem jb0 (s:ByteArray) (hs:s.size≤140737488355328) (h:Lib.parseIntB 64 s.data.toList=.range) (w:World) (hE:ErrOk w) :
  Calls Tryz.prog 239 #[.string s,.int .i64 10,.int .i64 64] w fun e w'=>(∃x t p,e=.returned (.tuple #[.int .i64 x,.iface t p]))∧Below w.heap.size w w':=by
 obtain ⟨_,ev,h2,h3⟩:=hE
 refine (Tryz.strconv_ParseInt_10_at64_range s (by omega) h ev w h2 h3).mono ?_
 rintro e w' ⟨N,rfl,_,_,hb⟩
 exact ⟨⟨_,_,_,rfl⟩,hb⟩
theorem jm7 (p:UInt8→Bool) (s:ByteArray) (h:0<s.size) (hp:p s[0]=true):qc0 p s.data.toList=qc0 p (s.data.toList.drop 1)+1:=by
 have:=qf3 p s.data.toList 0 (by rw [qa5];exact h) hp
 rwa [List.drop_zero] at this
theorem ji7 (s:ByteArray) (h0:0<s.size) (hs:s.size≤140737488355328) (hd:qm2 s[0]=true) (w:World) (hE:ErrOk w) :
  Calls Tryz.prog 193 #[.string s] w fun e w'=>e=.returned (.tuple #[tkV (qr8 s.data.toList) 0,.int .i64 (qc0 qm2 s.data.toList)])∧Below w.heap.size w w':=by
 have hl:=qa5 s
 have hp:=jm7 qm2 s h0 hd
 have hle:=qz8 qm2 s.data.toList
 have hdg:=digs_of s.data.toList
 have HD:Hid (qm2 s[0]=true):=hd
 clear hd
 obtain ⟨z,hz⟩:∃z,qc0 qm2 s.data.toList=z:=⟨_,rfl⟩
 have hz1:1≤z:=by omega
 have hzl:z≤s.size:=by omega
 have hxx:(s.extract 0 z).data.toList=s.data.toList.take z:=by rw [Lib.extract_data];simp
 have hpi:=vc9 (s.data.toList.take z) (by intro h;have:=congrArg List.length h;rw [List.length_take,List.length_nil] at this;omega) (by rw [←hz];exact hdg)
 have HK:Hid (qr8 s.data.toList=if qi0 0 (s.data.toList.take z)≤9223372036854775807 then ⟨3,qi0 0 (s.data.toList.take z),[]⟩ else qa2 1):=by rw [←hz];exact j4 rfl
 rw [hz] at hp ⊢
 have HP:=j4 hp
 have HX:=j4 hxx
 have HI:=j4 hpi
 have hEa:=fun o=>hE.alloc o
 have HE:=j4 hEa
 clear hdg hle hz hp hxx hpi hE hEa
 obtain ⟨v,hv⟩:∃v,qi0 0 (s.data.toList.take z)=v:=⟨_,rfl⟩
 rw [hv] at HK HI
 have HV:=j4 hv
 clear hv
 go_enter Tryz.func193,Tryz.ntmps193
 go_wp2_with fail
 go_loop [4] (fun i=>∃k:Nat,1≤k∧k≤s.size∧i=.int .i64 k∧Hid (z=qc0 qm2 (s.data.toList.drop k)+k)) (fun i=>s.size - (intOf i).toNat)
 case atStart=>exact ⟨1,Nat.le_refl _,by omega,rfl,HP⟩
 case round=>
  obtain ⟨k,hk1,hk,rfl,hr⟩:=hrel
  have more:∀hlt:k<s.size,qm2 s[k]=true→Hid (z=qc0 qm2 (s.data.toList.drop (k+1))+(k+1)):=fun hlt hg=>j4 (by
   have:=qf3 qm2 s.data.toList k (by omega) hg;rw [q9 hr,this];omega)
  have done1:∀hlt:k<s.size,qm2 s[k]=false→z=k:=fun hlt hg=>by
   have:=qg7 qm2 s.data.toList k (by omega) hg;rw [q9 hr,this];omega
  have done2:¬k<s.size→z=k:=fun hlt=>by
   have:=qh8 qm2 s.data.toList k (by omega);rw [q9 hr,this];omega
  clear hr
  by_cases hgo:∃hlt:k<s.size,qm2 s[k]=true
  ·obtain ⟨hlt,hg⟩:=hgo
   have HR:=more hlt hg
   have Hg:=j4 hg
   clear more done1 done2 hg
   go_wp2_with (go_at_call 192;refine (qk4 _ _).mono ?_;rintro e w' ⟨rfl,rfl⟩;rw [show vc8 (s[k].toNat:Int)=true from q9 Hg])
   go_round
   case rel=>exact ⟨k+1,by omega,by omega,by go_num,HR⟩
   case measure=>simp [intOf];omega
  ·have hzk:z=k:=by
    by_cases hlt:k<s.size
    ·exact done1 hlt (by cases hg:qm2 s[k] with|false=>rfl|true=>exact absurd ⟨hlt,hg⟩ hgo)
    ·exact done2 hlt
   have Hg:Hid (∀hlt:k<s.size,qm2 s[k]=false):=j4 fun hlt=>by cases hg:qm2 s[k] with|false=>rfl|true=>exact absurd ⟨hlt,hg⟩ hgo
   clear more done1 done2 hgo
   subst hzk
   by_cases hv:v≤9223372036854775807
   ·rw [if_pos hv] at HK HI
    have HVV:=j4 hv
    clear hv
    by_cases hlt:z<s.size
    all_goals
     go_wp2_with (first|(go_at_call 192;refine (qk4 _ _).mono ?_;rintro e w' ⟨rfl,rfl⟩;rw [show vc8 (s[z].toNat:Int)=false from q9 Hg hlt])|(go_at_call 239;refine (parse_ok _ (by simp;omega) v (by rw [q9 HX];exact q9 HI) _).mono ?_;rintro e w' ⟨rfl,hb⟩;obtain ⟨hc,hf⟩:=qa9 hb;have hz:=hb.size))
     refine bodyPost_ret (by simp [results,Tryz.results193,go_sem,hc];rfl) rfl ⟨?_, ?_⟩
     all_goals go_light
     ·exact qt1 (by rw [q9 HK]) (by rw [q9 HK]) (by rw [q9 HK];rfl) rfl
     ·exact ((((qd0 hb).setCell (by simp) _).setCell (by simp) _).setCell (by simp) _).setCell (by simp) _
   ·rw [if_neg hv] at HK HI
    clear hv
    by_cases hlt:z<s.size
    all_goals
     go_wp2_with (first|(go_at_call 192;refine (qk4 _ _).mono ?_;rintro e w' ⟨rfl,rfl⟩;rw [show vc8 (s[z].toNat:Int)=false from q9 Hg hlt])|(go_at_call 239;refine (jb0 _ (by simp;omega) (by rw [q9 HX];exact q9 HI) _ (q9 HE _)).mono ?_;rintro e w' ⟨⟨x,t,p,rfl⟩,hb⟩;obtain ⟨hc,hf⟩:=qa9 hb;have hz:=hb.size))
     refine bodyPost_ret (by simp [results,Tryz.results193,go_sem,hc];rfl) rfl ⟨?_, ?_⟩
     all_goals go_light
     ·exact qt1 (by rw [q9 HK];rfl) (by rw [q9 HK];rfl) (by rw [q9 HK];rfl) rfl
     ·exact ((((qd0 hb).setCell (by simp) _).setCell (by simp) _).setCell (by simp) _).setCell (by simp) _
end
section
def qi5:List UInt8→Option (List UInt8×Nat)
 | []=>none
 | [c]=>if c==39 then some ([],1) else none
 | c::d::t=>
  if c==39 then (if d==39 then (qi5 t).map fun r=>(39::r.1,r.2+2) else some ([],1))
  else (qi5 (d::t)).map fun r=>(c::r.1,r.2+1)
def qj4 (l:List UInt8):Tk:=match qi5 (l.drop 1) with
 | some r=>⟨4,0,r.1⟩
 | none=>qa2 1
def qu7 (l:List UInt8):Nat:=match qi5 (l.drop 1) with
 | some r=>r.2+1
 | none=>l.length
def QAt (l:List UInt8) (k:Nat) (xs:List UInt8):Prop:=qi5 (l.drop 1)=(qi5 (l.drop k)).map fun r=>(xs++r.1,r.2+(k - 1))
theorem drop2 (l:List UInt8) (k:Nat) (h:k+1<l.length):l.drop k=l[k]::l[k+1]::l.drop (k+2):=by
 rw [List.drop_eq_getElem_cons (by omega),List.drop_eq_getElem_cons (by omega)]
theorem drop1 (l:List UInt8) (k:Nat) (h:k+1=l.length):l.drop k=[l[k]]:=by
 rw [List.drop_eq_getElem_cons (by omega),List.drop_of_length_le (by omega)]
theorem QAt.start (l:List UInt8):QAt l 1 []:=by
 unfold QAt
 cases qi5 (l.drop 1)<;>simp
theorem QAt.over {l:List UInt8} {k:Nat} {xs:List UInt8} (h:QAt l k xs) (hk:l.length≤k):qi5 (l.drop 1)=none:=by
 unfold QAt at h;rw [h,List.drop_of_length_le hk];rfl
theorem QAt.close {l:List UInt8} {k:Nat} {xs:List UInt8} (h:QAt l k xs) (h1:1≤k) (hk:k<l.length) (hc:l[k]=39) (hn:∀h:k+1<l.length,l[k+1]≠39) :
  qi5 (l.drop 1)=some (xs,k):=by
 unfold QAt at h
 rw [h]
 by_cases h2:k+1<l.length
 ·have:=hn h2
  rw [drop2 l k h2,qi5,if_pos (by simp [hc]),if_neg (by simpa using this)];simp;omega
 ·rw [drop1 l k (by omega),qi5,if_pos (by simp [hc])];simp;omega
theorem QAt.two {l:List UInt8} {k:Nat} {xs:List UInt8} (h:QAt l k xs) (h1:1≤k) (hk:k+1<l.length) (hc:l[k]=39) (hd:l[k+1]=39):QAt l (k+2) (xs++[39]):=by
 unfold QAt at h ⊢
 rw [h,drop2 l k hk,qi5,if_pos (by simp [hc]),if_pos (by simp [hd])]
 cases qi5 (l.drop (k+2)) with
 | none=>rfl
 | some r=>simp;omega
theorem QAt.one {l:List UInt8} {k:Nat} {xs:List UInt8} (h:QAt l k xs) (h1:1≤k) (hk:k<l.length) (hc:l[k]≠39):QAt l (k+1) (xs++[l[k]]):=by
 unfold QAt at h ⊢
 rw [h]
 by_cases h2:k+1<l.length
 ·rw [drop2 l k h2,qi5,if_neg (by simpa using hc),List.drop_eq_getElem_cons h2]
  cases qi5 (l[k+1]::l.drop (k+1+1)) with
  | none=>rfl
  | some r=>simp;omega
 ·rw [drop1 l k (by omega),qi5,if_neg (by simpa using hc),List.drop_of_length_le (by omega)];rfl
theorem Tryz.info5u:(Tryz.prog.info? 5).map (fun i=>(i.zero,i.size,i.bytes))=some (some (.int .u8 0),1,1):=by kernel_rfl
theorem conv_own {w:World} {base:Nat} {v:Value} {l:List UInt8} (h:w.ownsRow base 5 1 v l.length (l.map fun c=>.int .u8 (c.toNat:Int))) :
  (convert 51 9 v).run Tryz.prog w=.ok (.string (BS l)) w:=by
 have h':=h
 obtain ⟨_,⟨rfl,hn⟩|⟨g,cap,cur,rfl,_⟩⟩:=h
 ·have:l=[]:=List.eq_nil_of_length_eq_zero hn
  subst this
  rw [run_convert_bytes_string w 51 9 5 none 0 0 Tryz.underlying51 Tryz.underlying5 Tryz.underlying9]
  simp [Conv.bytesToString]
  rfl
 ·refine run_convert_bytes_back w 51 9 5 ⟨g,0,none⟩ cap l Tryz.underlying51 Tryz.underlying5 Tryz.underlying9 fun j hj=>?_
  exact h'.cells rfl j _ (by simp [List.getElem?_eq_getElem hj])
end
section
theorem je8 {W w1 wr:World} {B:Nat} {v:Value} {n:Nat} {xs:List Value} {e:TypeId} (hb:Below B W wr) (hB:B≤wr.heap.size) (ho:wr.ownsRow B e 1 v n xs) (o:Obj)
  (hg:(wr.alloc o).grownBy w1 v.ownBlock):Below B W w1:=
 (hb.alloc hB o).grown hg (by simp;omega) fun k hk=>(ho.lt k hk).1
theorem jf6 (c:UInt8):((c.toNat:Int) != 39)=!(c==39):=by simp only [bne,u8_39]
theorem qs5 {l:List UInt8} {xs:List UInt8} {k:Nat} (h:qi5 (l.drop 1)=some (xs,k)):qj4 l=⟨4,0,xs⟩∧qu7 l=k+1:=by
 unfold qj4 qu7;rw [h];exact ⟨rfl,rfl⟩
theorem vg8 {l:List UInt8} (h:qi5 (l.drop 1)=none):qj4 l=qa2 1∧qu7 l=l.length:=by
 unfold qj4 qu7;rw [h];exact ⟨rfl,rfl⟩
theorem jj2 (s:ByteArray) (h0:0<s.size) (hs:s.size≤140737488355328) (w:World) :
  Calls Tryz.prog 194 #[.string s] w fun e w'=>e=.returned (.tuple #[tkV (qj4 s.data.toList) 0,.int .i64 (qu7 s.data.toList)])∧Below w.heap.size w w':=by
 have hl:=qa5 s
 obtain ⟨i0,hi,hz0,hz1,hz2⟩:=info_parts Tryz.info5u
 obtain ⟨TK,hTK⟩:∃t,qj4 s.data.toList=t:=⟨_,rfl⟩
 obtain ⟨Z,hZ⟩:∃t,qu7 s.data.toList=t:=⟨_,rfl⟩
 rw [hTK,hZ]
 have HTK:=j4 hTK
 have HZ:=j4 hZ
 clear hTK hZ
 go_enter Tryz.func194,Tryz.ntmps194
 go_wp2_with fail
 go_loopw [4,5] (fun v i wr=>∃(k:Nat) (xs:List UInt8),1≤k∧k≤s.size∧i=.int .i64 k∧Hid (QAt s.data.toList k xs)∧xs.length<k∧wr.ownsRow (w.heap.size+1) 5 1 v xs.length (xs.map fun c=>.int .u8 (c.toNat:Int))∧Below (w.heap.size+1) (w.alloc (.cells #[.int .i64 0,.int .i64 0,.int .i64 0,.string ⟨#[]⟩] 91)) wr)
  (fun _ i _=>s.size - (intOf i).toNat)
 case atStart=>exact ⟨1,[],Nat.le_refl _,by omega,rfl,j4 (QAt.start _),by simp,World.ownsRow_nil _ _ _ _,Below.refl _ _⟩
 case round=>
  obtain ⟨k,xs,hk1,hk,rfl,hq,hxl,hown,hb⟩:=hrel
  have hbs:w.heap.size+1≤wr.heap.size:=by have:=hb.size;simpa using this
  have hcv:=conv_own hown
  have hb':Below (w.alloc (.cells #[.int .i64 0,.int .i64 0,.int .i64 0,.string ⟨#[]⟩] 91)).heap.size (w.alloc (.cells #[.int .i64 0,.int .i64 0,.int .i64 0,.string ⟨#[]⟩] 91)) wr:=by simpa using hb
  obtain ⟨hc0,hf0⟩:=qa9 hb'
  by_cases hlt:k<s.size
  ·cases hc:(s[k]==39) with
   | false=>
    have HQ:Hid (QAt s.data.toList (k+1) (xs++[s[k]])):=j4 ((q9 hq).one hk1 (by omega) (by rw [qb3 s k hlt];simpa using hc))
    have hc':((s[k].toNat:Int)==39)=false:=by rw [u8_39];exact hc
    clear hc hq
    go_wp2_with (at_builtin;refine wpList_append_own _ rfl _ _ 51 rfl (w.heap.size+1) 5 i0 (.int .u8 0) 1 1 Tryz.underlying51 hi hz0 hz1 hz2 rfl (by decide) _ _ _ rfl (hown.alloc _) ⟨wr.heap.size,0,none⟩ 1 1 [.int .u8 (s[k].toNat:Int)] rfl rfl ?c1 ?c2 ?c3 ?c4 ?c5 ?_)
    case c1=>
     intro j u hj
     match j,hj with
     | 0,hj=>simp at hj;subst hj;simp [Addr.add]
    case c2=>intro u hu;simp at hu;subst hu;rfl
    case c3=>unfold maxLen;omega
    case c4=>omega
    case c5=>simp;omega
    intro v' w1 hown' hgrow _
    have hb1:=je8 hb hbs hown _ hgrow
    have hown1:w1.ownsRow (w.heap.size+1) 5 1 v' (xs++[s[k]]).length ((xs++[s[k]]).map fun c=>.int .u8 (c.toNat:Int)):=by simpa using hown'
    clear hown' hgrow hown hcv hb hbs hb' hc0 hf0
    go_wp2_with fail
    go_roundw
    case rel=>exact ⟨k+1,xs++[s[k]],by omega,by omega,by go_num,HQ,by simp;omega,hown1,hb1⟩
    case measure=>simp [intOf];omega
   | true=>
    have hc':((s[k].toNat:Int)==39)=true:=by rw [u8_39];exact hc
    have hk39:s.data.toList[k]'(by omega)=39:=by rw [qb3 s k hlt];simpa using hc
    by_cases h2:k+1<s.size
    ·cases hd:(s[k+1]==39) with
     | true=>
      have HQ:Hid (QAt s.data.toList (k+2) (xs++[39])):=j4 ((q9 hq).two hk1 (by omega) hk39 (by rw [qb3 s (k+1) h2];simpa using hd))
      have hd1:((s[k+1].toNat:Int) != 39)=false:=by rw [jf6,hd];rfl
      have hd2:(s[k+1].toNat:Int)=39:=by rw [show s[k+1]=39 by simpa using hd];rfl
      have he:((k:Int)+1==(s.size:Int))=false:=beq_eq_false_iff_ne.2 (by omega)
      clear hc hq hd hk39
      go_wp2_with (at_builtin;refine wpList_append_own _ rfl _ _ 51 rfl (w.heap.size+1) 5 i0 (.int .u8 0) 1 1 Tryz.underlying51 hi hz0 hz1 hz2 rfl (by decide) _ _ _ rfl (hown.alloc _) ⟨wr.heap.size,0,none⟩ 1 1 [.int .u8 39] rfl rfl ?c1 ?c2 ?c3 ?c4 ?c5 ?_)
      case c1=>
       intro j u hj
       match j,hj with
       | 0,hj=>simp at hj;subst hj;simp [Addr.add]
      case c2=>intro u hu;simp at hu;subst hu;rfl
      case c3=>unfold maxLen;omega
      case c4=>omega
      case c5=>simp;omega
      intro v' w1 hown' hgrow _
      have hb1:=je8 hb hbs hown _ hgrow
      have hown1:w1.ownsRow (w.heap.size+1) 5 1 v' (xs++[(39:UInt8)]).length ((xs++[(39:UInt8)]).map fun c=>.int .u8 (c.toNat:Int)):=by simpa using hown'
      clear hown' hgrow hown hcv hb hbs hb' hc0 hf0
      go_wp2_with fail
      go_roundw
      case rel=>exact ⟨k+2,xs++[39],by omega,by omega,by go_num,HQ,by simp;omega,hown1,hb1⟩
      case measure=>simp [intOf];omega
     | false=>
      have HC:Hid (qi5 (s.data.toList.drop 1)=some (xs,k)):=j4 ((q9 hq).close hk1 (by omega) hk39 (fun _=>by rw [qb3 s (k+1) h2];simpa using hd))
      have hd1:((s[k+1].toNat:Int) != 39)=true:=by rw [jf6,hd];rfl
      have he:((k:Int)+1==(s.size:Int))=false:=beq_eq_false_iff_ne.2 (by omega)
      clear hc hq hd hk39
      go_wp2_with fail
      refine bodyPost_ret (by simp [results,Tryz.results194,go_sem,hc0];rfl) rfl ⟨?_, ?_⟩
      all_goals go_light
      ·exact qt1 (by rw [←q9 HTK,(qs5 (q9 HC)).1]) (by rw [←q9 HTK,(qs5 (q9 HC)).1]) (by rw [←q9 HTK,(qs5 (q9 HC)).1]) (by rw [←q9 HZ,(qs5 (q9 HC)).2];go_num)
      ·exact (((((qd0 hb').setCell (by simp) _).setCell (by simp) _).setCell (by simp) _).setCell (by simp) _)
    ·have HC:Hid (qi5 (s.data.toList.drop 1)=some (xs,k)):=j4 ((q9 hq).close hk1 (by omega) hk39 (fun h=>absurd h (by omega)))
     have he:((k:Int)+1==(s.size:Int))=true:=beq_iff_eq.2 (by omega)
     clear hc hq hk39
     go_wp2_with fail
     refine bodyPost_ret (by simp [results,Tryz.results194,go_sem,hc0];rfl) rfl ⟨?_, ?_⟩
     all_goals go_light
     ·exact qt1 (by rw [←q9 HTK,(qs5 (q9 HC)).1]) (by rw [←q9 HTK,(qs5 (q9 HC)).1]) (by rw [←q9 HTK,(qs5 (q9 HC)).1]) (by rw [←q9 HZ,(qs5 (q9 HC)).2];go_num)
     ·exact (((((qd0 hb').setCell (by simp) _).setCell (by simp) _).setCell (by simp) _).setCell (by simp) _)
  ·have HN:Hid (qi5 (s.data.toList.drop 1)=none):=j4 ((q9 hq).over (by omega))
   clear hq
   go_wp2_with fail
   refine bodyPost_ret (by simp [results,Tryz.results194,go_sem,hc0];rfl) rfl ⟨?_, ?_⟩
   all_goals go_light
   ·exact qt1 (by rw [←q9 HTK,(vg8 (q9 HN)).1];rfl) (by rw [←q9 HTK,(vg8 (q9 HN)).1];rfl) (by rw [←q9 HTK,(vg8 (q9 HN)).1];rfl) (by rw [←q9 HZ,(vg8 (q9 HN)).2,hl])
   ·exact (((((qd0 hb').setCell (by simp) _).setCell (by simp) _).setCell (by simp) _).setCell (by simp) _)
end
end Go.Proofs.YtfkcaldjphakpaaGreatDoor
