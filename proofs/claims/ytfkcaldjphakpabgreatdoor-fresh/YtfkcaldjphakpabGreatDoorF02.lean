/- Contracts of lex.markKind and lex.mark. Contracts of lex.wordKind and lex.word. The contract of lex.number. The contract of lex.quoted. Contracts of package value: the logic and the comparisons. -/
import Derived.Test.YtfkcaldjphakpabGreatDoorF00
import Derived.Deep.Light
import Derived.Lib.IndexBytes
import Derived.Test.YtfkcaldjphakpabGreatDoorShelf
import Derived.Lib.AtoiErrMem
import Derived.Laws.IdiomStrings
set_option maxHeartbeats 400000
namespace Go.Proofs.YtfkcaldjphakpabGreatDoor
open Go.RowKit
section
def BS (l:List UInt8):ByteArray:=⟨l.toArray⟩
theorem qr2 (l:List UInt8):(BS l).data.toList=l:=rfl
theorem qn3 (l:List UInt8):(BS l).toList=l:=by rw [Lib.toList_data];rfl
theorem qc0 (l:List UInt8):(BS l).size=l.length:=rfl
def markK (l:List UInt8):Int:=
 if l==[61] then 16 else if l==[60] then 18 else if l==[60,61] then 19 else if l==[62] then 20 else if l==[62,61] then 21
 else if l==[43] then 22 else if l==[45] then 23 else if l==[42] then 24 else if l==[47] then 25 else if l==[40] then 26
 else if l==[41] then 27 else if l==[44] then 28 else 1
theorem vg3 (s:ByteArray) (w:World) :
  Calls Tryz.prog 213 #[.string s] w fun e w'=>e=.returned (.int .i64 (markK s.data.toList))∧w'=w:=by
 go_enter Tryz.func213,Tryz.ntmps213
 go_wp2_with fail
 all_goals (go_ret;refine ⟨qv9 ?_,rfl⟩;simp only [Lib.toList_data] at *;simp only [markK, *,if_true,Bool.false_eq_true,if_false])
structure Tk where
 kind:Int
 num:Int
 str:List UInt8
def tkV (t:Tk) (place:Int):Value:=.agg #[.int .i64 t.kind,.int .i64 place,.int .i64 t.num,.string (BS t.str)]
def qd8 (k:Int):Tk:=⟨k,0,[]⟩
def vw4 (l:List UInt8):Nat:=
 match l with
 | []=>1
 | [_]=>1
 | a::b::_=>if a==60&&b==62||(a==60||a==62)&&b==61 then 2 else 1
def jc2 (l:List UInt8):Int:=if l.take 2==[60,62] then 17 else markK (l.take (vw4 l))
theorem vp3 (c d:UInt8):((c.toNat:Int)==(d.toNat:Int))=(c==d):=by
 rw [Bool.eq_iff_iff];simp [←UInt8.toNat_inj];omega
theorem u8_39 (c:UInt8):((c.toNat:Int)==39)=(c==39):=vp3 c 39
theorem u8_60 (c:UInt8):((c.toNat:Int)==60)=(c==60):=vp3 c 60
theorem u8_61 (c:UInt8):((c.toNat:Int)==61)=(c==61):=vp3 c 61
theorem u8_62 (c:UInt8):((c.toNat:Int)==62)=(c==62):=vp3 c 62
theorem tok_ret {k k' z z':Int} (hk:k=k') (hz:z=z') :
  Ending.returned (.tuple #[.agg #[.int .i64 k,.int .i64 0,.int .i64 0,.string ⟨#[]⟩],.int .i64 z])=.returned (.tuple #[tkV (qd8 k') 0,.int .i64 z']):=by
 rw [hk,hz];rfl
theorem one_byte (s:ByteArray) (h:s.size=1):s.data.toList=[s[0]]:=by
 have hl:=qb0 s
 have e:=List.drop_eq_getElem_cons (l:=s.data.toList) (i:=0) (by omega)
 rw [List.drop_zero,qc6 s 0 (by omega),List.drop_of_length_le (by omega)] at e
 exact e
theorem mark_any (s:ByteArray) (h0:0<s.size) (hs:s.size≤maxLen) (w:World) :
  Calls Tryz.prog 180 #[.string s] w fun e w'=>e=.returned (.tuple #[tkV (qd8 (jc2 s.data.toList)) 0,.int .i64 (vw4 s.data.toList)])∧Below w.heap.size w w':=by
 unfold maxLen at hs
 by_cases h1:1<s.size
 ·obtain ⟨t,ht⟩:=Lib.two_bytes s h1
  have HT:=v7 ht
  clear ht
  go_enter Tryz.func180,Tryz.ntmps180
  go_wp2_with (go_at_call 213;refine (vg3 _ _).mono ?_;rintro e w' ⟨rfl,rfl⟩)
  all_goals
   refine bodyPost_ret (by simp [results,Tryz.results180,go_sem];rfl) rfl ⟨?_, ?_⟩
   case refine_2=>exact (Below.refl _ _).alloc (Nat.le_refl _) _
  all_goals (go_light;rw [q9 HT];simp only [u8_60,u8_61,u8_62] at *;refine tok_ret ?_ ?_<;>simp_all [jc2,vw4])
 ·have ht:=one_byte s (by omega)
  have HT:=v7 ht
  clear ht
  go_enter Tryz.func180,Tryz.ntmps180
  go_wp2_with (go_at_call 213;refine (vg3 _ _).mono ?_;rintro e w' ⟨rfl,rfl⟩)
  all_goals
   refine bodyPost_ret (by simp [results,Tryz.results180,go_sem];rfl) rfl ⟨?_, ?_⟩
   case refine_2=>exact (Below.refl _ _).alloc (Nat.le_refl _) _
  all_goals (go_light;rw [q9 HT];refine tok_ret ?_ ?_<;>simp [jc2,vw4])
end
section
def kwK (l:List UInt8):Int:=
 if l==[65,78,68] then 5 else if l==[79,82] then 6 else if l==[78,79,84] then 7 else if l==[84,82,85,69] then 8
 else if l==[70,65,76,83,69] then 9 else if l==[66,69,84,87,69,69,78] then 10 else if l==[73,78] then 11
 else if l==[76,73,75,69] then 12 else if l==[69,83,67,65,80,69] then 13 else if l==[73,83] then 14
 else if l==[78,85,76,76] then 15 else 2
def vp6 (l:List UInt8):Int:=kwK (Lib.toUpperA l)
theorem asciiAt {l:List UInt8} (h:∀c∈l,c.toNat<128):∀(j:Nat) (b:UInt8),l[j]?=some b→b.toNat<128:=
 fun _ _ hj=>h _ (List.mem_of_getElem? hj)
theorem qy9 (s:ByteArray) (hs:s.size≤140737488355328) (ha:∀c∈s.data.toList,c.toNat<128) (w:World) :
  Calls Tryz.prog 144 #[.string s] w fun e w'=>e=.returned (.int .i64 (vp6 s.data.toList))∧Below w.heap.size w w':=by
 have Ha:=v7 (asciiAt ha)
 clear ha
 unfold vp6
 obtain ⟨u,hu⟩:∃u,Lib.toUpperA s.data.toList=u:=⟨_,rfl⟩
 rw [hu]
 have Hu:=v7 hu
 clear hu
 go_enter Tryz.func144,Tryz.ntmps144
 go_wp2_with (go_at_call 194;refine (Tryz.strings_ToUpper_ascii _ _ hs (q9 Ha)).mono ?_;rintro e w' ⟨rfl,hb⟩;rw [q9 Hu])
 all_goals (go_ret;refine ⟨qv9 ?_,by assumption⟩;go_light;simp only [kwK, *,if_true,Bool.false_eq_true,if_false])
theorem goe_ascii {c:UInt8} (h:jb6 c=true):c.toNat<128:=by
 simp [jb6,goeB,zc7,zc9] at h;omega
theorem beg_ascii {c:UInt8} (h:ju1 c=true):c.toNat<128:=by
 simp [ju1,zc7] at h;omega
theorem vt5 (p:UInt8→Bool) (l:List UInt8):∀c∈l.take (qb9 p l),p c=true:=by
 induction l with
 | nil=>simp [qb9]
 | cons d t ih=>
  intro c hc
  by_cases hd:p d=true
  ·simp only [qb9,hd,if_true,List.take_succ_cons,List.mem_cons] at hc
   rcases hc with rfl|hc
   ·exact hd
   ·exact ih c hc
  ·simp [qb9,hd] at hc
theorem vp7 (l:List UInt8):qb5 l≤l.length:=by
 cases l with
 | nil=>simp [qb5]
 | cons c t=>have:=vd0 jb6 t;simp only [qb5];split<;>simp<;>omega
theorem vu5 (l:List UInt8):∀c∈l.take (qb5 l),c.toNat<128:=by
 cases l with
 | nil=>simp
 | cons d t=>
  intro c hc
  by_cases hd:ju1 d=true
  ·simp only [qb5,hd,if_true,List.take_succ_cons,List.mem_cons] at hc
   rcases hc with rfl|hc
   ·exact beg_ascii hd
   ·exact goe_ascii (vt5 jb6 t c hc)
  ·simp [qb5,hd] at hc
def ve1 (l:List UInt8):Tk:=if vp6 (l.take (qb5 l))=2 then ⟨2,0,l.take (qb5 l)⟩ else qd8 (vp6 (l.take (qb5 l)))
theorem qw3 {w:Tk} {k n:Int} {b:ByteArray} {z z':Int} (hk:k=w.kind) (hn:n=w.num) (hs:b=BS w.str) (hz:z=z') :
  Ending.returned (.tuple #[.agg #[.int .i64 k,.int .i64 0,.int .i64 n,.string b],.int .i64 z])=.returned (.tuple #[tkV w 0,.int .i64 z']):=by
 rw [hk,hn,hs,hz];rfl
theorem ja5 (s:ByteArray) (w:World) (hs:s.size≤281474976710656) :
  Calls Tryz.prog 162 #[.string s] w fun e w'=>e=.returned (.string s)∧Below w.heap.size w w':=by
 go_enter Tryz.func162,Tryz.ntmps162
 go_wp2_with (go_at_call 200;refine (Tryz.stringslite_Clone s _ hs).mono ?_;rintro e w1 ⟨rfl,hb1⟩)
 go_ret
 exact ⟨rfl,hb1⟩
theorem word_any (s:ByteArray) (hs:s.size≤140737488355328) (w:World) :
  Calls Tryz.prog 176 #[.string s] w fun e w'=>e=.returned (.tuple #[tkV (ve1 s.data.toList) 0,.int .i64 (qb5 s.data.toList)])∧Below w.heap.size w w':=by
 have hle:=vp7 s.data.toList
 rw [qb0] at hle
 have hx:(s.extract 0 (qb5 s.data.toList)).data.toList=s.data.toList.take (qb5 s.data.toList):=by rw [Lib.extract_data];simp
 have hm:s.size≤maxLen:=by unfold maxLen;omega
 have Ha:=v7 (vu5 s.data.toList)
 obtain ⟨z,hz⟩:∃z,qb5 s.data.toList=z:=⟨_,rfl⟩
 have Hk:Hid (ve1 s.data.toList=if vp6 (s.data.toList.take z)=2 then ⟨2,0,s.data.toList.take z⟩ else qd8 (vp6 (s.data.toList.take z))):=by rw [←hz];exact v7 rfl
 rw [hz] at hle hx Ha ⊢
 have Hx:=v7 hx
 have Hz:=v7 hz
 clear hx hz
 obtain ⟨k,hk⟩:∃k,vp6 (s.data.toList.take z)=k:=⟨_,rfl⟩
 have Hkk:=v7 hk
 clear hk
 by_cases h2:k=2
 ·have h2'':(k != 2)=false:=by simp [h2]
  have H2:=v7 h2
  clear h2
  go_enter Tryz.func176,Tryz.ntmps176
  go_wp2_with (first|(go_at_call 143;refine (qp5 _ hm _).mono ?_;rintro e w' ⟨rfl,rfl⟩;rw [q9 Hz])|(go_at_call 144;refine (qy9 _ (by simp;omega) (by rw [q9 Hx];exact q9 Ha) _).mono ?_;rintro e w' ⟨rfl,hb⟩;obtain ⟨hc,hf⟩:=j6 hb;have hz:=hb.size;rw [q9 Hx,q9 Hkk])|(go_at_call 162;refine (ja5 _ _ (by simp;omega)).mono ?_;rintro e w2 ⟨rfl,hb2⟩;have hz1:w.heap.size<w'.heap.size:=(by simp at hz;omega);have hz2:w.heap.size<w2.heap.size:=(by have:=hb2.size;omega);have c0:w2.cell? ⟨w.heap.size,0,none⟩=some (.int .i64 0):=((j6 hb2).1 _ 0 hz1).trans ((hc _ 0 (by simp)).trans (by simp));have c1:w2.cell? ⟨w.heap.size,1,none⟩=some (.int .i64 0):=((j6 hb2).1 _ 1 hz1).trans ((hc _ 1 (by simp)).trans (by simp));have c2:w2.cell? ⟨w.heap.size,2,none⟩=some (.int .i64 0):=((j6 hb2).1 _ 2 hz1).trans ((hc _ 2 (by simp)).trans (by simp));have c3:w2.cell? ⟨w.heap.size,3,none⟩=some (.string ⟨#[]⟩):=((j6 hb2).1 _ 3 hz1).trans ((hc _ 3 (by simp)).trans (by simp));have z0:∀j,w2.frozen? ⟨w.heap.size,j,none⟩=false:=(fun j=>((j6 hb2).2 _ j hz1).trans ((hf _ j (by simp)).trans (by simp)));have hB:=v7 (hb.trans (hb2.mono hb.size));clear hb hb2 hc hf hz))
  refine bodyPost_ret (by simp [results,Tryz.results176,go_sem,c0,c1,c2,c3];rfl) rfl ⟨?_, ?_⟩
  all_goals go_light
  ·exact qw3 (by rw [q9 Hk,q9 Hkk,if_pos (q9 H2)]) (by rw [q9 Hk,q9 Hkk,if_pos (q9 H2)]) (by rw [q9 Hk,q9 Hkk,if_pos (q9 H2),←q9 Hx];rfl) rfl
  ·exact ((((qc4 (q9 hB)).setCell (by simp) _).setCell (by simp) _).setCell (by simp) _).setCell (by simp) _
 ·have h2'':(k != 2)=true:=by simp [h2]
  have H2:=v7 h2
  clear h2
  go_enter Tryz.func176,Tryz.ntmps176
  go_wp2_with (first|(go_at_call 143;refine (qp5 _ hm _).mono ?_;rintro e w' ⟨rfl,rfl⟩;rw [q9 Hz])|(go_at_call 144;refine (qy9 _ (by simp;omega) (by rw [q9 Hx];exact q9 Ha) _).mono ?_;rintro e w' ⟨rfl,hb⟩;obtain ⟨hc,hf⟩:=j6 hb;have hz:=hb.size;rw [q9 Hx,q9 Hkk]))
  refine bodyPost_ret (by simp [results,Tryz.results176,go_sem,hc];rfl) rfl ⟨?_, ?_⟩
  all_goals go_light
  ·exact qw3 (by rw [q9 Hk,q9 Hkk,if_neg (q9 H2)];rfl) (by rw [q9 Hk,q9 Hkk,if_neg (q9 H2)];rfl) (by rw [q9 Hk,q9 Hkk,if_neg (q9 H2)];rfl) rfl
  ·exact ((((qc4 hb).setCell (by simp) _).setCell (by simp) _).setCell (by simp) _).setCell (by simp) _
end
section
def vw8 (l:List UInt8):Tk:=if qn4 0 (l.take (qb9 qz4 l))≤9223372036854775807 then ⟨3,qn4 0 (l.take (qb9 qz4 l)),[]⟩ else qd8 1
theorem digs_of (l:List UInt8):∀c∈l.take (qb9 qz4 l),48≤c.toNat∧c.toNat≤57:=by
 intro c hc
 have:=vt5 qz4 l c hc
 simp [qz4,zc9] at this;omega
theorem parse_ok (s:ByteArray) (hs:s.size≤140737488355328) (v:Int) (h:Lib.parseIntB 64 s.data.toList=.ok v) (w:World) :
  Calls Tryz.prog 212 #[.string s,.int .i64 10,.int .i64 64] w fun e w'=>e=.returned (.tuple #[.int .i64 v,.nilIface])∧Below w.heap.size w w':=by
 refine (Tryz.strconv_ParseInt_10_at64_ok s (by omega) v h w).mono ?_
 rintro e w' ⟨rfl,rfl|⟨t,rfl⟩⟩
 ·exact ⟨rfl,Below.refl _ _⟩
 ·exact ⟨rfl,Lib.bytesWorld_below _ _ _⟩
theorem jk9 (s:ByteArray) (hs:s.size≤140737488355328) (h:Lib.parseIntB 64 s.data.toList=.range) (w:World) (hE:ErrOk w) :
  Calls Tryz.prog 212 #[.string s,.int .i64 10,.int .i64 64] w fun e w'=>(∃x t p,e=.returned (.tuple #[.int .i64 x,.iface t p]))∧Below w.heap.size w w':=by
 obtain ⟨_,ev,h2,h3⟩:=hE
 refine (Tryz.strconv_ParseInt_10_at64_range s (by omega) h ev w h2 h3).mono ?_
 rintro e w' ⟨N,rfl,_,_,hb⟩
 exact ⟨⟨_,_,_,rfl⟩,hb⟩
theorem za6 (p:UInt8→Bool) (s:ByteArray) (h:0<s.size) (hp:p s[0]=true):qb9 p s.data.toList=qb9 p (s.data.toList.drop 1)+1:=by
 have:=qj4 p s.data.toList 0 (by rw [qb0];exact h) hp
 rwa [List.drop_zero] at this
theorem jy6 (s:ByteArray) (h0:0<s.size) (hs:s.size≤140737488355328) (hd:qz4 s[0]=true) (w:World) (hE:ErrOk w) :
  Calls Tryz.prog 178 #[.string s] w fun e w'=>e=.returned (.tuple #[tkV (vw8 s.data.toList) 0,.int .i64 (qb9 qz4 s.data.toList)])∧Below w.heap.size w w':=by
 have hl:=qb0 s
 have hp:=za6 qz4 s h0 hd
 have hle:=vd0 qz4 s.data.toList
 have hdg:=digs_of s.data.toList
 have HD:Hid (qz4 s[0]=true):=hd
 clear hd
 obtain ⟨z,hz⟩:∃z,qb9 qz4 s.data.toList=z:=⟨_,rfl⟩
 have hz1:1≤z:=by omega
 have hzl:z≤s.size:=by omega
 have hxx:(s.extract 0 z).data.toList=s.data.toList.take z:=by rw [Lib.extract_data];simp
 have hpi:=vh2 (s.data.toList.take z) (by intro h;have:=congrArg List.length h;rw [List.length_take,List.length_nil] at this;omega) (by rw [←hz];exact hdg)
 have HK:Hid (vw8 s.data.toList=if qn4 0 (s.data.toList.take z)≤9223372036854775807 then ⟨3,qn4 0 (s.data.toList.take z),[]⟩ else qd8 1):=by rw [←hz];exact v7 rfl
 rw [hz] at hp ⊢
 have HP:=v7 hp
 have HX:=v7 hxx
 have HI:=v7 hpi
 have hEa:=fun o=>hE.alloc o
 have HE:=v7 hEa
 clear hdg hle hz hp hxx hpi hE hEa
 obtain ⟨v,hv⟩:∃v,qn4 0 (s.data.toList.take z)=v:=⟨_,rfl⟩
 rw [hv] at HK HI
 have HV:=v7 hv
 clear hv
 go_enter Tryz.func178,Tryz.ntmps178
 go_wp2_with fail
 go_loop [4] (fun i=>∃k:Nat,1≤k∧k≤s.size∧i=.int .i64 k∧Hid (z=qb9 qz4 (s.data.toList.drop k)+k)) (fun i=>s.size - (intOf i).toNat)
 case atStart=>exact ⟨1,Nat.le_refl _,by omega,rfl,HP⟩
 case round=>
  obtain ⟨k,hk1,hk,rfl,hr⟩:=hrel
  have more:∀hlt:k<s.size,qz4 s[k]=true→Hid (z=qb9 qz4 (s.data.toList.drop (k+1))+(k+1)):=fun hlt hg=>v7 (by
   have:=qj4 qz4 s.data.toList k (by omega) hg;rw [q9 hr,this];omega)
  have done1:∀hlt:k<s.size,qz4 s[k]=false→z=k:=fun hlt hg=>by
   have:=qq0 qz4 s.data.toList k (by omega) hg;rw [q9 hr,this];omega
  have done2:¬k<s.size→z=k:=fun hlt=>by
   have:=qs0 qz4 s.data.toList k (by omega);rw [q9 hr,this];omega
  clear hr
  by_cases hgo:∃hlt:k<s.size,qz4 s[k]=true
  ·obtain ⟨hlt,hg⟩:=hgo
   have HR:=more hlt hg
   have Hg:=v7 hg
   clear more done1 done2 hg
   go_wp2_with (go_at_call 177;refine (qj6 _ _).mono ?_;rintro e w' ⟨rfl,rfl⟩;rw [show zc9 (s[k].toNat:Int)=true from q9 Hg])
   go_round
   case rel=>exact ⟨k+1,by omega,by omega,by go_num,HR⟩
   case measure=>simp [intOf];omega
  ·have hzk:z=k:=by
    by_cases hlt:k<s.size
    ·exact done1 hlt (by cases hg:qz4 s[k] with|false=>rfl|true=>exact absurd ⟨hlt,hg⟩ hgo)
    ·exact done2 hlt
   have Hg:Hid (∀hlt:k<s.size,qz4 s[k]=false):=v7 fun hlt=>by cases hg:qz4 s[k] with|false=>rfl|true=>exact absurd ⟨hlt,hg⟩ hgo
   clear more done1 done2 hgo
   subst hzk
   by_cases hv:v≤9223372036854775807
   ·rw [if_pos hv] at HK HI
    have HVV:=v7 hv
    clear hv
    by_cases hlt:z<s.size
    all_goals
     go_wp2_with (first|(go_at_call 177;refine (qj6 _ _).mono ?_;rintro e w' ⟨rfl,rfl⟩;rw [show zc9 (s[z].toNat:Int)=false from q9 Hg hlt])|(go_at_call 212;refine (parse_ok _ (by simp;omega) v (by rw [q9 HX];exact q9 HI) _).mono ?_;rintro e w' ⟨rfl,hb⟩;obtain ⟨hc,hf⟩:=j6 hb;have hz:=hb.size))
     refine bodyPost_ret (by simp [results,Tryz.results178,go_sem,hc];rfl) rfl ⟨?_, ?_⟩
     all_goals go_light
     ·exact qw3 (by rw [q9 HK]) (by rw [q9 HK]) (by rw [q9 HK];rfl) rfl
     ·exact ((((qc4 hb).setCell (by simp) _).setCell (by simp) _).setCell (by simp) _).setCell (by simp) _
   ·rw [if_neg hv] at HK HI
    clear hv
    by_cases hlt:z<s.size
    all_goals
     go_wp2_with (first|(go_at_call 177;refine (qj6 _ _).mono ?_;rintro e w' ⟨rfl,rfl⟩;rw [show zc9 (s[z].toNat:Int)=false from q9 Hg hlt])|(go_at_call 212;refine (jk9 _ (by simp;omega) (by rw [q9 HX];exact q9 HI) _ (q9 HE _)).mono ?_;rintro e w' ⟨⟨x,t,p,rfl⟩,hb⟩;obtain ⟨hc,hf⟩:=j6 hb;have hz:=hb.size))
     refine bodyPost_ret (by simp [results,Tryz.results178,go_sem,hc];rfl) rfl ⟨?_, ?_⟩
     all_goals go_light
     ·exact qw3 (by rw [q9 HK];rfl) (by rw [q9 HK];rfl) (by rw [q9 HK];rfl) rfl
     ·exact ((((qc4 hb).setCell (by simp) _).setCell (by simp) _).setCell (by simp) _).setCell (by simp) _
end
section
def qi0:List UInt8→Option (List UInt8×Nat)
 | []=>none
 | [c]=>if c==39 then some ([],1) else none
 | c::d::t=>
  if c==39 then (if d==39 then (qi0 t).map fun r=>(39::r.1,r.2+2) else some ([],1))
  else (qi0 (d::t)).map fun r=>(c::r.1,r.2+1)
def qu5 (l:List UInt8):Tk:=match qi0 (l.drop 1) with
 | some r=>⟨4,0,r.1⟩
 | none=>qd8 1
def vm7 (l:List UInt8):Nat:=match qi0 (l.drop 1) with
 | some r=>r.2+1
 | none=>l.length
def QAt (l:List UInt8) (k:Nat) (xs:List UInt8):Prop:=qi0 (l.drop 1)=(qi0 (l.drop k)).map fun r=>(xs++r.1,r.2+(k - 1))
theorem drop2 (l:List UInt8) (k:Nat) (h:k+1<l.length):l.drop k=l[k]::l[k+1]::l.drop (k+2):=by
 rw [List.drop_eq_getElem_cons (by omega),List.drop_eq_getElem_cons (by omega)]
theorem drop1 (l:List UInt8) (k:Nat) (h:k+1=l.length):l.drop k=[l[k]]:=by
 rw [List.drop_eq_getElem_cons (by omega),List.drop_of_length_le (by omega)]
theorem QAt.start (l:List UInt8):QAt l 1 []:=by
 unfold QAt
 cases qi0 (l.drop 1)<;>simp
theorem QAt.over {l:List UInt8} {k:Nat} {xs:List UInt8} (h:QAt l k xs) (hk:l.length≤k):qi0 (l.drop 1)=none:=by
 unfold QAt at h;rw [h,List.drop_of_length_le hk];rfl
theorem QAt.close {l:List UInt8} {k:Nat} {xs:List UInt8} (h:QAt l k xs) (h1:1≤k) (hk:k<l.length) (hc:l[k]=39) (hn:∀h:k+1<l.length,l[k+1]≠39) :
  qi0 (l.drop 1)=some (xs,k):=by
 unfold QAt at h
 rw [h]
 by_cases h2:k+1<l.length
 ·have:=hn h2
  rw [drop2 l k h2,qi0,if_pos (by simp [hc]),if_neg (by simpa using this)];simp;omega
 ·rw [drop1 l k (by omega),qi0,if_pos (by simp [hc])];simp;omega
theorem QAt.two {l:List UInt8} {k:Nat} {xs:List UInt8} (h:QAt l k xs) (h1:1≤k) (hk:k+1<l.length) (hc:l[k]=39) (hd:l[k+1]=39):QAt l (k+2) (xs++[39]):=by
 unfold QAt at h ⊢
 rw [h,drop2 l k hk,qi0,if_pos (by simp [hc]),if_pos (by simp [hd])]
 cases qi0 (l.drop (k+2)) with
 | none=>rfl
 | some r=>simp;omega
theorem QAt.one {l:List UInt8} {k:Nat} {xs:List UInt8} (h:QAt l k xs) (h1:1≤k) (hk:k<l.length) (hc:l[k]≠39):QAt l (k+1) (xs++[l[k]]):=by
 unfold QAt at h ⊢
 rw [h]
 by_cases h2:k+1<l.length
 ·rw [drop2 l k h2,qi0,if_neg (by simpa using hc),List.drop_eq_getElem_cons h2]
  cases qi0 (l[k+1]::l.drop (k+1+1)) with
  | none=>rfl
  | some r=>simp;omega
 ·rw [drop1 l k (by omega),qi0,if_neg (by simpa using hc),List.drop_of_length_le (by omega)];rfl
theorem Tryz.info5u:(Tryz.prog.info? 5).map (fun i=>(i.zero,i.size,i.bytes))=some (some (.int .u8 0),1,1):=by kernel_rfl
theorem conv_own {w:World} {base:Nat} {v:Value} {l:List UInt8} (h:w.ownsRow base 5 1 v l.length (l.map fun c=>.int .u8 (c.toNat:Int))) :
  (convert 36 9 v).run Tryz.prog w=.ok (.string (BS l)) w:=by
 have h':=h
 obtain ⟨_,⟨rfl,hn⟩|⟨g,cap,cur,rfl,_⟩⟩:=h
 ·have:l=[]:=List.eq_nil_of_length_eq_zero hn
  subst this
  rw [run_convert_bytes_string w 36 9 5 none 0 0 Tryz.underlying36 Tryz.underlying5 Tryz.underlying9]
  simp [Conv.bytesToString]
  rfl
 ·refine run_convert_bytes_back w 36 9 5 ⟨g,0,none⟩ cap l Tryz.underlying36 Tryz.underlying5 Tryz.underlying9 fun j hj=>?_
  exact h'.cells rfl j _ (by simp [List.getElem?_eq_getElem hj])
end
section
structure V where
 kind:Int
 num:Int
 str:List UInt8
 deriving DecidableEq
def vV (v:V):Value:=.agg #[.int .i64 v.kind,.int .i64 v.num,.string (BS v.str)]
def nV:V:=⟨0,0,[]⟩
def bV (b:Bool):V:=⟨1,if b then 1 else 0,[]⟩
def iV (n:Int):V:=⟨2,n,[]⟩
def tV (s:List UInt8):V:=⟨3,0,s⟩
theorem qg1 (b:Bool) (w:World) :
  Calls Tryz.prog 70 #[.bool b] w fun e w'=>e=.returned (vV (bV b))∧Below w.heap.size w w':=by
 cases b
 all_goals
  go_enter Tryz.func70,Tryz.ntmps70
  go_wp2_with fail
  refine bodyPost_ret (by simp [results,Tryz.results70,go_sem];rfl) rfl ⟨rfl,(Below.refl _ _).alloc (Nat.le_refl _) _⟩
theorem qq8 (n:Int) (w:World) :
  Calls Tryz.prog 103 #[.int .i64 n] w fun e w'=>e=.returned (vV (iV n))∧Below w.heap.size w w':=by
 go_enter Tryz.func103,Tryz.ntmps103
 go_wp2_with fail
 refine bodyPost_ret (by simp [results,Tryz.results103,go_sem];rfl) rfl ⟨rfl,(Below.refl _ _).alloc (Nat.le_refl _) _⟩
theorem vp4 (s:ByteArray) (w:World) :
  Calls Tryz.prog 104 #[.string s] w fun e w'=>e=.returned (vV (tV s.data.toList))∧Below w.heap.size w w':=by
 go_enter Tryz.func104,Tryz.ntmps104
 go_wp2_with fail
 refine bodyPost_ret (by simp [results,Tryz.results104,go_sem];rfl) rfl ⟨rfl,(Below.refl _ _).alloc (Nat.le_refl _) _⟩
theorem qd1 (w:World) :
  Calls Tryz.prog 146 #[] w fun e w'=>e=.returned (vV nV)∧Below w.heap.size w w':=by
 go_enter Tryz.func146,Tryz.ntmps146
 go_wp2_with fail
 refine bodyPost_ret (by simp [results,Tryz.results146,go_sem];rfl) rfl ⟨rfl,(Below.refl _ _).alloc (Nat.le_refl _) _⟩
def vc1 (x y:V):Bool:=x.kind==2&&y.kind==2
theorem qh0 (w:World) (o o':Obj):Below w.heap.size w ((w.alloc o).alloc o'):=((Below.refl _ _).alloc (Nat.le_refl _) o).alloc (by simp) o'
theorem qb3 (w:World) (o o' o'':Obj):Below w.heap.size w (((w.alloc o).alloc o').alloc o''):=(qh0 w o o').alloc (by simp;omega) o''
theorem x8 (x y:V) (w:World) :
  Calls Tryz.prog 197 #[vV x,vV y] w fun e w'=>e=.returned (.bool (vc1 x y))∧Below w.heap.size w w':=by
 unfold vc1 vV
 go_enter Tryz.func197,Tryz.ntmps197
 go_wp2_with fail
 all_goals
  go_ret
  exact ⟨qe7 (by simp_all),qh0 _ _ _⟩
theorem v8 {w W w':World} (h1:Below w.heap.size w W) (h2:Below W.heap.size W w'):Below w.heap.size w w':=h1.trans (h2.mono h1.size)
def notV (x:V):V:=if x.kind==1 then bV (x.num==0) else nV
theorem ju0 (x:V) (w:World) :
  Calls Tryz.prog 148 #[vV x] w fun e w'=>e=.returned (vV (notV x))∧Below w.heap.size w w':=by
 unfold notV
 cases hk:(x.kind==1) with
 | true=>
  have hk':(x.kind != 1)=false:=by simp only [bne,hk];rfl
  simp only [vV]
  go_enter Tryz.func148,Tryz.ntmps148
  go_wp2_with (go_at_call 70;refine (qg1 _ _).mono ?_;rintro e w' ⟨rfl,hb⟩;obtain ⟨hc,hf⟩:=j6 hb;simp only [vV])
  refine bodyPost_ret (by simp [results,Tryz.results148,go_sem,hc]<;>rfl) rfl ⟨rfl, ?_⟩
  exact ((((v8 (qh0 _ _ _) hb).setCell (by simp) _).setCell (by simp) _).setCell (by simp) _)
 | false=>
  have hk':(x.kind != 1)=true:=by simp only [bne,hk];rfl
  simp only [vV]
  go_enter Tryz.func148,Tryz.ntmps148
  go_wp2_with (go_at_call 146;refine (qd1 _).mono ?_;rintro e w' ⟨rfl,hb⟩;obtain ⟨hc,hf⟩:=j6 hb;simp only [vV])
  refine bodyPost_ret (by simp [results,Tryz.results148,go_sem,hc]<;>rfl) rfl ⟨rfl, ?_⟩
  exact ((((v8 (qh0 _ _ _) hb).setCell (by simp) _).setCell (by simp) _).setCell (by simp) _)
theorem jp2 (x:V) (w:World) :
  Calls Tryz.prog 158 #[vV x] w fun e w'=>e=.returned (vV (bV (x.kind==0)))∧Below w.heap.size w w':=by
 simp only [vV]
 go_enter Tryz.func158,Tryz.ntmps158
 go_wp2_with (go_at_call 70;refine (qg1 _ _).mono ?_;rintro e w' ⟨rfl,hb⟩;obtain ⟨hc,hf⟩:=j6 hb;simp only [vV])
 refine bodyPost_ret (by simp [results,Tryz.results158,go_sem,hc]<;>rfl) rfl ⟨rfl, ?_⟩
 exact ((((v8 (qh0 _ _ _) hb).setCell (by simp) _).setCell (by simp) _).setCell (by simp) _)
def eqV (x y:V):V:=if x.kind==0||!(x.kind==y.kind) then nV else bV (decide (x=y))
def jc1 (x y:V):V:=if vc1 x y then bV (decide (x.num<y.num)) else nV
def leV (x y:V):V:=if vc1 x y then bV (decide (x.num≤y.num)) else nV
theorem jf2 (x y:V) (w:World) :
  Calls Tryz.prog 152 #[vV x,vV y] w fun e w'=>e=.returned (vV (jc1 x y))∧Below w.heap.size w w':=by
 unfold jc1
 cases hk:vc1 x y with
 | true=>
  have HK:=v7 hk
  clear hk
  simp only [if_true]
  obtain ⟨b,hb⟩:∃b,decide (x.num<y.num)=b:=⟨_,rfl⟩
  rw [hb]
  have HB:=v7 hb
  clear hb
  conv=>arg 3;simp only [vV]
  go_enter Tryz.func152,Tryz.ntmps152
  go_wp2_with (first|(go_at_call 197;refine (x8 x y _).mono ?_;rintro e w1 ⟨rfl,hb1⟩;rw [q9 HK];obtain ⟨hc1,hf1⟩:=j6 hb1;have hz1:w.heap.size+2<w1.heap.size:=(by have:=hb1.size;simp at this;omega))|(go_at_call 70;rw [q9 HB];refine (qg1 _ _).mono ?_;rintro e w2 ⟨rfl,hb2⟩;obtain ⟨hc2,hf2⟩:=j6 hb2;simp only [vV]))
  refine bodyPost_ret (by simp [results,Tryz.results152,go_sem,hc2,hc1,hz1]<;>rfl) rfl ⟨rfl, ?_⟩
  exact ((((v8 (v8 (qb3 _ _ _ _) hb1) hb2).setCell (by simp;omega) _).setCell (by simp;omega) _).setCell (by simp;omega) _)
 | false=>
  have HK:=v7 hk
  clear hk
  simp only [Bool.false_eq_true,if_false]
  conv=>arg 3;simp only [vV]
  go_enter Tryz.func152,Tryz.ntmps152
  go_wp2_with (first|(go_at_call 197;refine (x8 x y _).mono ?_;rintro e w1 ⟨rfl,hb1⟩;rw [q9 HK];obtain ⟨hc1,hf1⟩:=j6 hb1;have hz1:w.heap.size+2<w1.heap.size:=(by have:=hb1.size;simp at this;omega))|(go_at_call 146;refine (qd1 _).mono ?_;rintro e w2 ⟨rfl,hb2⟩;obtain ⟨hc2,hf2⟩:=j6 hb2;simp only [vV]))
  refine bodyPost_ret (by simp [results,Tryz.results152,go_sem,hc2,hc1,hz1]<;>rfl) rfl ⟨rfl, ?_⟩
  exact ((((v8 (v8 (qb3 _ _ _ _) hb1) hb2).setCell (by simp;omega) _).setCell (by simp;omega) _).setCell (by simp;omega) _)
theorem qn0 (x y:V) (w:World) :
  Calls Tryz.prog 153 #[vV x,vV y] w fun e w'=>e=.returned (vV (leV x y))∧Below w.heap.size w w':=by
 unfold leV
 cases hk:vc1 x y with
 | true=>
  have HK:=v7 hk
  clear hk
  simp only [if_true]
  obtain ⟨b,hb⟩:∃b,decide (x.num≤y.num)=b:=⟨_,rfl⟩
  rw [hb]
  have HB:=v7 hb
  clear hb
  conv=>arg 3;simp only [vV]
  go_enter Tryz.func153,Tryz.ntmps153
  go_wp2_with (first|(go_at_call 197;refine (x8 x y _).mono ?_;rintro e w1 ⟨rfl,hb1⟩;rw [q9 HK];obtain ⟨hc1,hf1⟩:=j6 hb1;have hz1:w.heap.size+2<w1.heap.size:=(by have:=hb1.size;simp at this;omega))|(go_at_call 70;rw [q9 HB];refine (qg1 _ _).mono ?_;rintro e w2 ⟨rfl,hb2⟩;obtain ⟨hc2,hf2⟩:=j6 hb2;simp only [vV]))
  refine bodyPost_ret (by simp [results,Tryz.results153,go_sem,hc2,hc1,hz1]<;>rfl) rfl ⟨rfl, ?_⟩
  exact ((((v8 (v8 (qb3 _ _ _ _) hb1) hb2).setCell (by simp;omega) _).setCell (by simp;omega) _).setCell (by simp;omega) _)
 | false=>
  have HK:=v7 hk
  clear hk
  simp only [Bool.false_eq_true,if_false]
  conv=>arg 3;simp only [vV]
  go_enter Tryz.func153,Tryz.ntmps153
  go_wp2_with (first|(go_at_call 197;refine (x8 x y _).mono ?_;rintro e w1 ⟨rfl,hb1⟩;rw [q9 HK];obtain ⟨hc1,hf1⟩:=j6 hb1;have hz1:w.heap.size+2<w1.heap.size:=(by have:=hb1.size;simp at this;omega))|(go_at_call 146;refine (qd1 _).mono ?_;rintro e w2 ⟨rfl,hb2⟩;obtain ⟨hc2,hf2⟩:=j6 hb2;simp only [vV]))
  refine bodyPost_ret (by simp [results,Tryz.results153,go_sem,hc2,hc1,hz1]<;>rfl) rfl ⟨rfl, ?_⟩
  exact ((((v8 (v8 (qb3 _ _ _ _) hb1) hb2).setCell (by simp;omega) _).setCell (by simp;omega) _).setCell (by simp;omega) _)
theorem vj6 (x y:V) (w:World):(binOp .eql 118 (vV x) (vV y)).run Tryz.prog w=.ok (.bool (decide (x=y))) w:=by
 obtain ⟨k,n,s⟩:=x
 obtain ⟨k',n',s'⟩:=y
 simp only [vV,V.mk.injEq]
 by_cases h1:k=k'
 ·by_cases h2:n=n'
  ·by_cases h3:s=s'
   ·subst h1 h2 h3
    simp [go_sem]
   ·simp [go_sem,h1,h2,h3,qn3]
  ·simp [go_sem,h1,h2]
 ·simp [go_sem,h1]
theorem vf9 (x y:V) (w:World) :
  Calls Tryz.prog 151 #[vV x,vV y] w fun e w'=>e=.returned (vV (eqV x y))∧Below w.heap.size w w':=by
 have he:=fun w=>vj6 x y w
 simp only [vV] at he
 unfold eqV
 generalize decide (x=y)=d at *
 cases h0:(x.kind==0) with
 | true=>
  simp only [Bool.true_or,if_true]
  conv=>arg 3;simp only [vV]
  go_enter Tryz.func151,Tryz.ntmps151
  go_wp2_with (first|(go_at_call 70;refine (qg1 _ _).mono ?_;rintro e w' ⟨rfl,hb⟩;obtain ⟨hc,hf⟩:=j6 hb;have hz:w.heap.size+2<w'.heap.size:=(by have:=hb.size;simp at this;omega);have hB:Below w.heap.size w w':=(by first|exact v8 (qb3 _ _ _ _) hb|exact v8 (by assumption) hb);clear hb;simp only [vV])|(go_at_call 146;refine (qd1 _).mono ?_;rintro e w' ⟨rfl,hb⟩;obtain ⟨hc,hf⟩:=j6 hb;have hz:w.heap.size+2<w'.heap.size:=(by have:=hb.size;simp at this;omega);have hB:Below w.heap.size w w':=(by first|exact v8 (qb3 _ _ _ _) hb|exact v8 (by assumption) hb);clear hb;simp only [vV]))
  refine bodyPost_ret (by simp [results,Tryz.results151,go_sem, *]<;>rfl) rfl ⟨rfl, ?_⟩
  exact (((hB.setCell (by simp;omega) _).setCell (by simp;omega) _).setCell (by simp;omega) _)
 | false=>
  cases h1:(x.kind==y.kind) with
  | false=>
   have h2:(x.kind != y.kind)=true:=by simp only [bne,h1];rfl
   simp only [Bool.false_or,Bool.not_false,if_true]
   conv=>arg 3;simp only [vV]
   go_enter Tryz.func151,Tryz.ntmps151
   go_wp2_with (first|(go_at_call 70;refine (qg1 _ _).mono ?_;rintro e w' ⟨rfl,hb⟩;obtain ⟨hc,hf⟩:=j6 hb;have hz:w.heap.size+2<w'.heap.size:=(by have:=hb.size;simp at this;omega);have hB:Below w.heap.size w w':=(by first|exact v8 (qb3 _ _ _ _) hb|exact v8 (by assumption) hb);clear hb;simp only [vV])|(go_at_call 146;refine (qd1 _).mono ?_;rintro e w' ⟨rfl,hb⟩;obtain ⟨hc,hf⟩:=j6 hb;have hz:w.heap.size+2<w'.heap.size:=(by have:=hb.size;simp at this;omega);have hB:Below w.heap.size w w':=(by first|exact v8 (qb3 _ _ _ _) hb|exact v8 (by assumption) hb);clear hb;simp only [vV]))
   refine bodyPost_ret (by simp [results,Tryz.results151,go_sem, *]<;>rfl) rfl ⟨rfl, ?_⟩
   exact (((hB.setCell (by simp;omega) _).setCell (by simp;omega) _).setCell (by simp;omega) _)
  | true=>
   have h2:(x.kind != y.kind)=false:=by simp only [bne,h1];rfl
   simp only [Bool.false_or,Bool.not_true,Bool.false_eq_true,if_false]
   conv=>arg 3;simp only [vV]
   go_enter Tryz.func151,Tryz.ntmps151
   go_wp2_with (first|(go_at_call 70;refine (qg1 _ _).mono ?_;rintro e w' ⟨rfl,hb⟩;obtain ⟨hc,hf⟩:=j6 hb;have hz:w.heap.size+2<w'.heap.size:=(by have:=hb.size;simp at this;omega);have hB:Below w.heap.size w w':=(by first|exact v8 (qb3 _ _ _ _) hb|exact v8 (by assumption) hb);clear hb;simp only [vV])|(go_at_call 146;refine (qd1 _).mono ?_;rintro e w' ⟨rfl,hb⟩;obtain ⟨hc,hf⟩:=j6 hb;have hz:w.heap.size+2<w'.heap.size:=(by have:=hb.size;simp at this;omega);have hB:Below w.heap.size w w':=(by first|exact v8 (qb3 _ _ _ _) hb|exact v8 (by assumption) hb);clear hb;simp only [vV]))
   refine bodyPost_ret (by simp [results,Tryz.results151,go_sem, *]<;>rfl) rfl ⟨rfl, ?_⟩
   exact (((hB.setCell (by simp;omega) _).setCell (by simp;omega) _).setCell (by simp;omega) _)
end
end Go.Proofs.YtfkcaldjphakpabGreatDoor
