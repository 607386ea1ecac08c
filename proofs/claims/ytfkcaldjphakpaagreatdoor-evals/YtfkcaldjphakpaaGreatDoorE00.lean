/- Contracts of lex.markKind and lex.mark. Contracts of lex.wordKind and lex.word. -/
import Derived.Test.YtfkcaldjphakpaaGreatDoorE01
import Derived.Deep.Light
import Derived.Lib.IndexBytes
import Derived.Test.YtfkcaldjphakpaaGreatDoorShelf
set_option maxHeartbeats 400000
namespace Go.Proofs.YtfkcaldjphakpaaGreatDoor
open Go.RowKit
section
def BS (l:List UInt8):ByteArray:=⟨l.toArray⟩
theorem qm6 (l:List UInt8):(BS l).data.toList=l:=rfl
theorem BS_of (s:ByteArray):BS s.data.toList=s:=rfl
theorem qi0 (l:List UInt8):(BS l).toList=l:=by rw [Lib.toList_data];rfl
theorem qi8 (l:List UInt8):(BS l).size=l.length:=rfl
def vh4 (l:List UInt8):Int:=
 if l==[61] then 16 else if l==[60] then 18 else if l==[60,61] then 19 else if l==[62] then 20 else if l==[62,61] then 21
 else if l==[43] then 22 else if l==[45] then 23 else if l==[42] then 24 else if l==[47] then 25 else if l==[40] then 26
 else if l==[41] then 27 else if l==[44] then 28 else 1
theorem qz6 (s:ByteArray) (w:World) :
  Calls Tryz.prog 240 #[.string s] w fun e w'=>e=.returned (.int .i64 (vh4 s.data.toList))∧w'=w:=by
 go_enter Tryz.func240,Tryz.ntmps240
 go_wp2_with fail
 all_goals (go_ret;refine ⟨qf7 ?_,rfl⟩;simp only [Lib.toList_data] at *;simp only [vh4, *,if_true,Bool.false_eq_true,if_false])
structure Tk where
 kind:Int
 num:Int
 str:List UInt8
def tkV (t:Tk) (place:Int):Value:=.agg #[.int .i64 t.kind,.int .i64 place,.int .i64 t.num,.string (BS t.str)]
def j6 (k:Int):Tk:=⟨k,0,[]⟩
def qs7 (l:List UInt8):Nat:=
 match l with
 | []=>1
 | [_]=>1
 | a::b::_=>if a==60&&b==62||(a==60||a==62)&&b==61 then 2 else 1
def qp8 (l:List UInt8):Int:=if l.take 2==[60,62] then 17 else vh4 (l.take (qs7 l))
theorem qr0 (c d:UInt8):((c.toNat:Int)==(d.toNat:Int))=(c==d):=by
 rw [Bool.eq_iff_iff];simp [←UInt8.toNat_inj];omega
theorem u8_39 (c:UInt8):((c.toNat:Int)==39)=(c==39):=qr0 c 39
theorem u8_60 (c:UInt8):((c.toNat:Int)==60)=(c==60):=qr0 c 60
theorem u8_61 (c:UInt8):((c.toNat:Int)==61)=(c==61):=qr0 c 61
theorem u8_62 (c:UInt8):((c.toNat:Int)==62)=(c==62):=qr0 c 62
theorem tok_ret {k k' z z':Int} (hk:k=k') (hz:z=z') :
  Ending.returned (.tuple #[.agg #[.int .i64 k,.int .i64 0,.int .i64 0,.string ⟨#[]⟩],.int .i64 z])=.returned (.tuple #[tkV (j6 k') 0,.int .i64 z']):=by
 rw [hk,hz];rfl
theorem one_byte (s:ByteArray) (h:s.size=1):s.data.toList=[s[0]]:=by
 have hl:=j4 s
 have e:=List.drop_eq_getElem_cons (l:=s.data.toList) (i:=0) (by omega)
 rw [List.drop_zero,j9 s 0 (by omega),List.drop_of_length_le (by omega)] at e
 exact e
theorem mark_any (s:ByteArray) (h0:0<s.size) (hs:s.size≤maxLen) (w:World) :
  Calls Tryz.prog 195 #[.string s] w fun e w'=>e=.returned (.tuple #[tkV (j6 (qp8 s.data.toList)) 0,.int .i64 (qs7 s.data.toList)])∧Below w.heap.size w w':=by
 unfold maxLen at hs
 by_cases h1:1<s.size
 ·obtain ⟨t,ht⟩:=Lib.two_bytes s h1
  have HT:=v7 ht
  clear ht
  go_enter Tryz.func195,Tryz.ntmps195
  go_wp2_with (go_at_call 240;refine (qz6 _ _).mono ?_;rintro e w' ⟨rfl,rfl⟩)
  all_goals
   refine bodyPost_ret (by simp [results,Tryz.results195,go_sem];rfl) rfl ⟨?_, ?_⟩
   case refine_2=>exact (Below.refl _ _).alloc (Nat.le_refl _) _
  all_goals (go_light;rw [q9 HT];simp only [u8_60,u8_61,u8_62] at *;refine tok_ret ?_ ?_<;>simp_all [qp8,qs7])
 ·have ht:=one_byte s (by omega)
  have HT:=v7 ht
  clear ht
  go_enter Tryz.func195,Tryz.ntmps195
  go_wp2_with (go_at_call 240;refine (qz6 _ _).mono ?_;rintro e w' ⟨rfl,rfl⟩)
  all_goals
   refine bodyPost_ret (by simp [results,Tryz.results195,go_sem];rfl) rfl ⟨?_, ?_⟩
   case refine_2=>exact (Below.refl _ _).alloc (Nat.le_refl _) _
  all_goals (go_light;rw [q9 HT];refine tok_ret ?_ ?_<;>simp [qp8,qs7])
end
section
def kwK (l:List UInt8):Int:=
 if l==[65,78,68] then 5 else if l==[79,82] then 6 else if l==[78,79,84] then 7 else if l==[84,82,85,69] then 8
 else if l==[70,65,76,83,69] then 9 else if l==[66,69,84,87,69,69,78] then 10 else if l==[73,78] then 11
 else if l==[76,73,75,69] then 12 else if l==[69,83,67,65,80,69] then 13 else if l==[73,83] then 14
 else if l==[78,85,76,76] then 15 else 2
def qn8 (l:List UInt8):Int:=kwK (Lib.toUpperA l)
theorem asciiAt {l:List UInt8} (h:∀c∈l,c.toNat<128):∀(j:Nat) (b:UInt8),l[j]?=some b→b.toNat<128:=
 fun _ _ hj=>h _ (List.mem_of_getElem? hj)
theorem qt6 (s:ByteArray) (hs:s.size≤140737488355328) (ha:∀c∈s.data.toList,c.toNat<128) (w:World) :
  Calls Tryz.prog 151 #[.string s] w fun e w'=>e=.returned (.int .i64 (qn8 s.data.toList))∧Below w.heap.size w w':=by
 have Ha:=v7 (asciiAt ha)
 clear ha
 unfold qn8
 obtain ⟨u,hu⟩:∃u,Lib.toUpperA s.data.toList=u:=⟨_,rfl⟩
 rw [hu]
 have Hu:=v7 hu
 clear hu
 go_enter Tryz.func151,Tryz.ntmps151
 go_wp2_with (go_at_call 202;refine (Tryz.strings_ToUpper_ascii _ _ hs (q9 Ha)).mono ?_;rintro e w' ⟨rfl,hb⟩;rw [q9 Hu])
 all_goals (go_ret;refine ⟨qf7 ?_,by assumption⟩;go_light;simp only [kwK, *,if_true,Bool.false_eq_true,if_false])
theorem goe_ascii {c:UInt8} (h:qs9 c=true):c.toNat<128:=by
 simp [qs9,goeB,qx8,va0] at h;omega
theorem beg_ascii {c:UInt8} (h:qx9 c=true):c.toNat<128:=by
 simp [qx9,qx8] at h;omega
theorem vf3 (p:UInt8→Bool) (l:List UInt8):∀c∈l.take (qa4 p l),p c=true:=by
 induction l with
 | nil=>simp [qa4]
 | cons d t ih=>
  intro c hc
  by_cases hd:p d=true
  ·simp only [qa4,hd,if_true,List.take_succ_cons,List.mem_cons] at hc
   rcases hc with rfl|hc
   ·exact hd
   ·exact ih c hc
  ·simp [qa4,hd] at hc
theorem qn9 (l:List UInt8):x5 l≤l.length:=by
 cases l with
 | nil=>simp [x5]
 | cons c t=>have:=qx0 qs9 t;simp only [x5];split<;>simp<;>omega
theorem vf9 (l:List UInt8):∀c∈l.take (x5 l),c.toNat<128:=by
 cases l with
 | nil=>simp
 | cons d t=>
  intro c hc
  by_cases hd:qx9 d=true
  ·simp only [x5,hd,if_true,List.take_succ_cons,List.mem_cons] at hc
   rcases hc with rfl|hc
   ·exact beg_ascii hd
   ·exact goe_ascii (vf3 qs9 t c hc)
  ·simp [x5,hd] at hc
def qi4 (l:List UInt8):Tk:=if qn8 (l.take (x5 l))=2 then ⟨2,0,l.take (x5 l)⟩ else j6 (qn8 (l.take (x5 l)))
theorem qs2 {w:Tk} {k n:Int} {b:ByteArray} {z z':Int} (hk:k=w.kind) (hn:n=w.num) (hs:b=BS w.str) (hz:z=z') :
  Ending.returned (.tuple #[.agg #[.int .i64 k,.int .i64 0,.int .i64 n,.string b],.int .i64 z])=.returned (.tuple #[tkV w 0,.int .i64 z']):=by
 rw [hk,hn,hs,hz];rfl
theorem vm9 (s:ByteArray) (w:World) (hs:s.size≤281474976710656) :
  Calls Tryz.prog 39 #[.string s] w fun e w'=>e=.returned (.string s)∧Below w.heap.size w w':=by
 go_enter Tryz.func39,Tryz.ntmps39
 go_wp2_with (go_at_call 66;refine (Tryz.stringslite_Clone s _ hs).mono ?_;rintro e w1 ⟨rfl,hb1⟩)
 go_ret
 exact ⟨rfl,hb1⟩
theorem word_any (s:ByteArray) (hs:s.size≤140737488355328) (w:World) :
  Calls Tryz.prog 191 #[.string s] w fun e w'=>e=.returned (.tuple #[tkV (qi4 s.data.toList) 0,.int .i64 (x5 s.data.toList)])∧Below w.heap.size w w':=by
 have hle:=qn9 s.data.toList
 rw [j4] at hle
 have hx:(s.extract 0 (x5 s.data.toList)).data.toList=s.data.toList.take (x5 s.data.toList):=by rw [Lib.extract_data];simp
 have hm:s.size≤maxLen:=by unfold maxLen;omega
 have Ha:=v7 (vf9 s.data.toList)
 obtain ⟨z,hz⟩:∃z,x5 s.data.toList=z:=⟨_,rfl⟩
 have Hk:Hid (qi4 s.data.toList=if qn8 (s.data.toList.take z)=2 then ⟨2,0,s.data.toList.take z⟩ else j6 (qn8 (s.data.toList.take z))):=by rw [←hz];exact v7 rfl
 rw [hz] at hle hx Ha ⊢
 have Hx:=v7 hx
 have Hz:=v7 hz
 clear hx hz
 obtain ⟨k,hk⟩:∃k,qn8 (s.data.toList.take z)=k:=⟨_,rfl⟩
 have Hkk:=v7 hk
 clear hk
 by_cases h2:k=2
 ·have h2'':(k != 2)=false:=by simp [h2]
  have H2:=v7 h2
  clear h2
  go_enter Tryz.func191,Tryz.ntmps191
  go_wp2_with (first|(go_at_call 150;refine (qm5 _ hm _).mono ?_;rintro e w' ⟨rfl,rfl⟩;rw [q9 Hz])|(go_at_call 151;refine (qt6 _ (by simp;omega) (by rw [q9 Hx];exact q9 Ha) _).mono ?_;rintro e w' ⟨rfl,hb⟩;obtain ⟨hc,hf⟩:=v9 hb;have hz:=hb.size;rw [q9 Hx,q9 Hkk])|(go_at_call 39;refine (vm9 _ _ (by simp;omega)).mono ?_;rintro e w2 ⟨rfl,hb2⟩;have hz1:w.heap.size<w'.heap.size:=(by simp at hz;omega);have hz2:w.heap.size<w2.heap.size:=(by have:=hb2.size;omega);have c0:w2.cell? ⟨w.heap.size,0,none⟩=some (.int .i64 0):=((v9 hb2).1 _ 0 hz1).trans ((hc _ 0 (by simp)).trans (by simp));have c1:w2.cell? ⟨w.heap.size,1,none⟩=some (.int .i64 0):=((v9 hb2).1 _ 1 hz1).trans ((hc _ 1 (by simp)).trans (by simp));have c2:w2.cell? ⟨w.heap.size,2,none⟩=some (.int .i64 0):=((v9 hb2).1 _ 2 hz1).trans ((hc _ 2 (by simp)).trans (by simp));have c3:w2.cell? ⟨w.heap.size,3,none⟩=some (.string ⟨#[]⟩):=((v9 hb2).1 _ 3 hz1).trans ((hc _ 3 (by simp)).trans (by simp));have z0:∀j,w2.frozen? ⟨w.heap.size,j,none⟩=false:=(fun j=>((v9 hb2).2 _ j hz1).trans ((hf _ j (by simp)).trans (by simp)));have hB:=v7 (hb.trans (hb2.mono hb.size));clear hb hb2 hc hf hz))
  refine bodyPost_ret (by simp [results,Tryz.results191,go_sem,c0,c1,c2,c3];rfl) rfl ⟨?_, ?_⟩
  all_goals go_light
  ·exact qs2 (by rw [q9 Hk,q9 Hkk,if_pos (q9 H2)]) (by rw [q9 Hk,q9 Hkk,if_pos (q9 H2)]) (by rw [q9 Hk,q9 Hkk,if_pos (q9 H2),←q9 Hx];rfl) rfl
  ·exact ((((qb5 (q9 hB)).setCell (by simp) _).setCell (by simp) _).setCell (by simp) _).setCell (by simp) _
 ·have h2'':(k != 2)=true:=by simp [h2]
  have H2:=v7 h2
  clear h2
  go_enter Tryz.func191,Tryz.ntmps191
  go_wp2_with (first|(go_at_call 150;refine (qm5 _ hm _).mono ?_;rintro e w' ⟨rfl,rfl⟩;rw [q9 Hz])|(go_at_call 151;refine (qt6 _ (by simp;omega) (by rw [q9 Hx];exact q9 Ha) _).mono ?_;rintro e w' ⟨rfl,hb⟩;obtain ⟨hc,hf⟩:=v9 hb;have hz:=hb.size;rw [q9 Hx,q9 Hkk]))
  refine bodyPost_ret (by simp [results,Tryz.results191,go_sem,hc];rfl) rfl ⟨?_, ?_⟩
  all_goals go_light
  ·exact qs2 (by rw [q9 Hk,q9 Hkk,if_neg (q9 H2)];rfl) (by rw [q9 Hk,q9 Hkk,if_neg (q9 H2)];rfl) (by rw [q9 Hk,q9 Hkk,if_neg (q9 H2)];rfl) rfl
  ·exact ((((qb5 hb).setCell (by simp) _).setCell (by simp) _).setCell (by simp) _).setCell (by simp) _
end
end Go.Proofs.YtfkcaldjphakpaaGreatDoor
