/- Contracts of the small functions of package lex. -/
import Derived.Test.YtfkcaldjphakpaaGreatDoorProg
import Derived.WalkKit
import Derived.WalkSpells
import Derived.WalkLawsBesides
import Derived.Lib.Strings
import Derived.Deep.Light
import Derived.Lib.IndexBytes
import Derived.Lib.ParseIntB
set_option maxHeartbeats 1600000
namespace Go.Proofs.YtfkcaldjphakpaaGreatDoor
open Go.RowKit Go.Proofs.Tryz
section
theorem j3{p:Prop}(h:p):Hid p:=h
theorem q9{p:Prop}(h:Hid p):p:=h
theorem qb0{W w1:World}(hb:Below W.heap.size W w1):(∀b o,b<W.heap.size->w1.cell? ⟨b,o,none⟩=W.cell? ⟨b,o,none⟩)/\(∀b o,b<W.heap.size->w1.frozen? ⟨b,o,none⟩=W.frozen? ⟨b,o,none⟩):=
 ⟨λb o h=>hb.cell (p:=⟨b,o,none⟩) h,λb o h=>hb.frozen (p:=⟨b,o,none⟩) h⟩
theorem qc8{w w':World}{o:Obj}(hb:Below (w.alloc o).heap.size (w.alloc o) w'):Below w.heap.size w w':=
 ((Below.refl _ _).alloc (Nat.le_refl _) _).trans (hb.mono (by simp))
def ErrOk(w:World):Prop:=3<w.heap.size/\∃ev,w.cell? ⟨3,0,none⟩=some ev/\(ev=.nilIface\/∃te pe,ev=.iface te pe)
theorem ErrOk.below{w w':World}{B:Nat}(h:ErrOk w)(hb:Below B w w')(hB:w.heap.size<=B):ErrOk w':=by
 obtain⟨h1,ev,h2,h3⟩:=h;refine⟨Nat.lt_of_lt_of_le h1 hb.size,ev, ?_,h3⟩;rw[hb.cell (p:=⟨3,0,none⟩) (Nat.lt_of_lt_of_le h1 hB)];exact h2
theorem ErrOk.alloc{w:World}(h:ErrOk w)(o:Obj):ErrOk (w.alloc o):=
 h.below ((Below.refl w.heap.size w).alloc (Nat.le_refl _) o) (Nat.le_refl _)
def spB(c:Int):Bool:=c==32||c==9||c==10
def ve3(c:Int):Bool:=decide (48<=c)&&decide (c<=57)
def vg6(c:Int):Bool:=decide (65<=c)&&decide (c<=90)||decide (97<=c)&&decide (c<=122)||c==95||c==36
def goeB(c:Int):Bool:=vg6 c||ve3 c||c==46
theorem qn4{a b:Bool}(h:a=true↔b=true):Ending.returned (.bool a)=.returned (.bool b):=by
 rw[Bool.eq_iff_iff.2 h]
theorem vm2(c:Int)(w:World):
  Calls prog 143 #[.int .u8 c] w λe w'=>e=.returned (.bool (spB c))/\w'=w:=by
 unfold spB;go_enter func143,ntmps143
 go_wp2
 all_goals(go_ret;exact⟨qn4 (by simp<;>omega),rfl⟩)
theorem qj9(c:Int)(w:World):
  Calls prog 192 #[.int .u8 c] w λe w'=>e=.returned (.bool (ve3 c))/\w'=w:=by
 unfold ve3;go_enter func192,ntmps192
 go_wp2
 all_goals(go_ret;exact⟨qn4 (by simp<;>omega),rfl⟩)
theorem qg2(c:Int)(w:World):
  Calls prog 190 #[.int .u8 c] w λe w'=>e=.returned (.bool (vg6 c))/\w'=w:=by
 unfold vg6;go_enter func190,ntmps190
 go_wp2
 all_goals(go_ret;exact⟨qn4 (by simp<;>omega),rfl⟩)
theorem qz2(c:Int)(w:World):
  Calls prog 201 #[.int .u8 c] w λe w'=>e=.returned (.bool (goeB c))/\w'=w:=by
 unfold goeB;go_enter func201,ntmps201
 go_wp2_with(first|(go_at_call 190;refine(qg2 _ _).mono ?_;rintro e w'⟨rfl,rfl⟩)|(go_at_call 192;refine(qj9 _ _).mono ?_;rintro e w'⟨rfl,rfl⟩))
 all_goals(go_ret;exact⟨qn4 (by simp_all),rfl⟩)
end
section
def qa3(p:UInt8->Bool):List UInt8->Nat
 | []=>0
 | c::t=>if p c then qa3 p t+1 else 0
def qv5(c:UInt8):Bool:=goeB (c.toNat:Int)
def qs3(c:UInt8):Bool:=vg6 (c.toNat:Int)
def qh3(c:UInt8):Bool:=ve3 (c.toNat:Int)
def spU(c:UInt8):Bool:=spB (c.toNat:Int)
theorem qx6(p:UInt8->Bool)(l:List UInt8):qa3 p l<=l.length:=by
 induction l with
 | nil=>simp[qa3]
 | cons c t ih=>simp only[qa3];split<;>simp<;>omega
theorem qe9(p:UInt8->Bool)(l:List UInt8)(k:Nat)(h:k<l.length)(hp:p (l[k])=true):
  qa3 p (l.drop k)=qa3 p (l.drop (k+1))+1:=by
 rw[List.drop_eq_getElem_cons h];simp[qa3,hp]
theorem qf9(p:UInt8->Bool)(l:List UInt8)(k:Nat)(h:k<l.length)(hp:p (l[k])=false):
  qa3 p (l.drop k)=0:=by
 rw[List.drop_eq_getElem_cons h];simp[qa3,hp]
theorem qh0(p:UInt8->Bool)(l:List UInt8)(k:Nat)(h:l.length<=k):qa3 p (l.drop k)=0:=by
 rw[List.drop_of_length_le h];rfl
def qa8:List UInt8->Nat
 | []=>0
 | c::t=>if qs3 c then qa3 qv5 t+1 else 0
theorem qa5(s:ByteArray):s.data.toList.length=s.size:=by simp only[Array.length_toList];rfl
theorem qb2(s:ByteArray)(k:Nat)(h:k<s.size):s.data.toList[k]'(by rw[qa5];exact h)=s[k]:=rfl
theorem jg3{s:ByteArray}(h:0<s.size):s.toList.isEmpty=false:=by
 have hl:=qa5 s;rw[Lib.toList_data]
 cases he:s.data.toList with
 | nil=>rw[he]at hl;simp at hl;omega
 | cons c t=>rfl
theorem toList_em{s:ByteArray}(h:¬0<s.size):s.toList.isEmpty=true:=by
 have hl:=qa5 s;rw[Lib.toList_data,List.eq_nil_of_length_eq_zero (show s.data.toList.length=0 by omega)];rfl
theorem qg3{k:IntKind}{a b:Int}(h:a=b):Ending.returned (.int k a)=.returned (.int k b):=by rw[h]
theorem vz0(s:ByteArray)(h:0<s.size):qa8 s.data.toList=if qs3 s[0] then qa3 qv5 (s.data.toList.drop 1)+1 else 0:=by
 have e:=List.drop_eq_getElem_cons (l:=s.data.toList) (i:=0) (by rw[qa5];exact h);rw[List.drop_zero,qb2 s 0 h]at e;rw[e];rfl
theorem vh3(s:ByteArray)(hs:s.size<=maxLen)(w:World):
  Calls prog 150 #[.string s] w λe w'=>e=.returned (.int .i64 (qa8 s.data.toList))/\w'=w:=by
 unfold maxLen at hs;have hl:=qa5 s
 by_cases h0:0<s.size
 ·have C1:s.toList.isEmpty=false:=jg3 h0
  have hw:=vz0 s h0
  cases hb:qs3 s[0] with
  | false=>
   rw[hb,if_neg (by simp)]at hw;have H:=j3 hw;have Hb:=j3 hb;clear hw hb;go_enter func150,ntmps150
   go_wp2_with(go_at_call 190;refine(qg2 _ _).mono ?_;rintro e w'⟨rfl,rfl⟩;rw[show vg6 (s[0].toNat:Int)=false from q9 Hb])
   go_ret;exact⟨qg3 (by rw[q9 H];rfl),rfl⟩
  | true=>
   rw[hb,if_pos rfl]at hw;have H:=j3 hw;have Hb:=j3 hb;clear hw hb;go_enter func150,ntmps150
   go_wp2_with(go_at_call 190;refine(qg2 _ _).mono ?_;rintro e w'⟨rfl,rfl⟩;rw[show vg6 (s[0].toNat:Int)=true from q9 Hb])
   go_loop [3] (λi=>∃k:Nat,1<=k/\k<=s.size/\i=.int .i64 k/\Hid (qa3 qv5 (s.data.toList.drop 1)+1=qa3 qv5 (s.data.toList.drop k)+k)) (λi=>s.size - (intOf i).toNat)
   case atStart=>exact⟨1,Nat.le_refl _,by omega,rfl,j3 rfl⟩
   case round=>
    obtain⟨k,A0,hk,rfl,hr⟩:=hrel
    by_cases A1:k<s.size
    ·cases hg:qv5 s[k] with
     | true=>
      have A5:=qe9 qv5 s.data.toList k (by omega) hg;have HR:Hid (qa3 qv5 (s.data.toList.drop 1)+1=qa3 qv5 (s.data.toList.drop (k+1))+(k+1)):=j3 (by rw[q9 hr,A5];omega);have Hg:=j3 hg;clear A5 hg hr
      go_wp2_with(go_at_call 201;refine(qz2 _ _).mono ?_;rintro e w'⟨rfl,rfl⟩;rw[show goeB (s[k].toNat:Int)=true from q9 Hg])
      go_round
      case rel=>exact⟨k+1,by omega,by omega,by go_num,HR⟩
      case measure=>simp[intOf];omega
     | false=>
      have A5:=qf9 qv5 s.data.toList k (by omega) hg;have HR:Hid (qa3 qv5 (s.data.toList.drop 1)+1=k):=j3 (by rw[q9 hr,A5];omega);have Hg:=j3 hg;clear A5 hg hr
      go_wp2_with(go_at_call 201;refine(qz2 _ _).mono ?_;rintro e w'⟨rfl,rfl⟩;rw[show goeB (s[k].toNat:Int)=false from q9 Hg])
      go_ret;exact⟨qg3 (by rw[q9 H,q9 HR]),rfl⟩
    ·have A5:=qh0 qv5 s.data.toList k (by omega)
     have HR:Hid (qa3 qv5 (s.data.toList.drop 1)+1=k):=j3 (by rw[q9 hr,A5];omega);clear A5 hr
     go_wp2_with fail
     go_ret;exact⟨qg3 (by rw[q9 H,q9 HR]),rfl⟩
 ·have hw:qa8 s.data.toList=0:=by rw[List.eq_nil_of_length_eq_zero (show s.data.toList.length=0 by omega)];rfl
  have he:s.toList.isEmpty=true:=toList_em h0;have H:=j3 hw;clear hw;go_enter func150,ntmps150
  go_wp2_with fail
  go_ret;exact⟨qg3 (by rw[q9 H];rfl),rfl⟩
end
section
def BS(l:List UInt8):ByteArray:=⟨l.toArray⟩
theorem qp4(l:List UInt8):(BS l).data.toList=l:=rfl
theorem BS_of(s:ByteArray):BS s.data.toList=s:=rfl
theorem qc9(l:List UInt8):(BS l).toList=l:=by rw[Lib.toList_data];rfl
theorem qc1(l:List UInt8):(BS l).size=l.length:=rfl
def vv6(l:List UInt8):Int:=
 if l==[61] then 16 else if l==[60] then 18 else if l==[60,61] then 19 else if l==[62] then 20 else if l==[62,61] then 21
 else if l==[43] then 22 else if l==[45] then 23 else if l==[42] then 24 else if l==[47] then 25 else if l==[40] then 26
 else if l==[41] then 27 else if l==[44] then 28 else 1
theorem vg8(s:ByteArray)(w:World):
  Calls prog 240 #[.string s] w λe w'=>e=.returned (.int .i64 (vv6 s.data.toList))/\w'=w:=by
 go_enter func240,ntmps240
 go_wp2_with fail
 all_goals(go_ret;refine⟨qg3 ?_,rfl⟩;simp only[Lib.toList_data]at *;simp only[vv6, *,if_true,Bool.false_eq_true,if_false])
structure Tk where
 kind:Int
 num:Int
 str:List UInt8
def tkV(t:Tk)(place:Int):Value:=.agg #[.int .i64 t.kind,.int .i64 place,.int .i64 t.num,.string (BS t.str)]
def j7(k:Int):Tk:=⟨k,0,[]⟩
def qr3(l:List UInt8):Nat:=
 match l with
 | []=>1
 | [_]=>1
 | a::b::_=>if a==60&&b==62||(a==60||a==62)&&b==61 then 2 else 1
def qn9(l:List UInt8):Int:=if l.take 2==[60,62] then 17 else vv6 (l.take (qr3 l))
theorem vt5(c d:UInt8):((c.toNat:Int)==(d.toNat:Int))=(c==d):=by
 rw[Bool.eq_iff_iff];simp[←UInt8.toNat_inj];omega
theorem u8_39(c:UInt8):((c.toNat:Int)==39)=(c==39):=vt5 c 39
theorem u8_60(c:UInt8):((c.toNat:Int)==60)=(c==60):=vt5 c 60
theorem u8_61(c:UInt8):((c.toNat:Int)==61)=(c==61):=vt5 c 61
theorem u8_62(c:UInt8):((c.toNat:Int)==62)=(c==62):=vt5 c 62
theorem tok_ret{k k' z z':Int}(hk:k=k')(hz:z=z'):
  Ending.returned (.tuple #[.agg #[.int .i64 k,.int .i64 0,.int .i64 0,.string ⟨#[]⟩],.int .i64 z])=.returned (.tuple #[tkV (j7 k') 0,.int .i64 z']):=by
 rw[hk,hz];rfl
theorem one_byte(s:ByteArray)(h:s.size=1):s.data.toList=[s[0]]:=by
 have hl:=qa5 s;have e:=List.drop_eq_getElem_cons (l:=s.data.toList) (i:=0) (by omega);rw[List.drop_zero,qb2 s 0 (by omega),List.drop_of_length_le (by omega)]at e;exact e
theorem mark_any(s:ByteArray)(h0:0<s.size)(hs:s.size<=maxLen)(w:World):
  Calls prog 195 #[.string s] w λe w'=>e=.returned (.tuple #[tkV (j7 (qn9 s.data.toList)) 0,.int .i64 (qr3 s.data.toList)])/\Below w.heap.size w w':=by
 unfold maxLen at hs
 by_cases h1:1<s.size
 ·obtain⟨t,ht⟩:=Lib.two_bytes s h1
  have HT:=j3 ht;clear ht;go_enter func195,ntmps195
  go_wp2_with(go_at_call 240;refine(vg8 _ _).mono ?_;rintro e w'⟨rfl,rfl⟩)
  all_goals
   refine bodyPost_ret (by simp[results,results195,go_sem];rfl) rfl ⟨?_, ?_⟩
   case refine_2=>exact(Below.refl _ _).alloc (Nat.le_refl _) _
  all_goals(go_light;rw[q9 HT];simp only[u8_60,u8_61,u8_62]at *;refine tok_ret ?_ ?_<;>simp_all [qn9,qr3])
 ·have ht:=one_byte s (by omega)
  have HT:=j3 ht;clear ht;go_enter func195,ntmps195
  go_wp2_with(go_at_call 240;refine(vg8 _ _).mono ?_;rintro e w'⟨rfl,rfl⟩)
  all_goals
   refine bodyPost_ret (by simp[results,results195,go_sem];rfl) rfl ⟨?_, ?_⟩
   case refine_2=>exact(Below.refl _ _).alloc (Nat.le_refl _) _
  all_goals(go_light;rw[q9 HT];refine tok_ret ?_ ?_<;>simp[qn9,qr3])
end
section
open Go.Lib Go.Proofs.Tryz
def qf4(acc:Nat):List UInt8->Nat
 | []=>acc
 | c::r=>qf4 (acc * 10+(c.toNat - 48)) r
theorem le_decVal(l:List UInt8):∀acc,acc<=qf4 acc l:=by
 induction l with
 | nil=>intro acc;exact Nat.le_refl _
 | cons c r ih=>intro acc;exact Nat.le_trans (by omega) (ih _)
theorem vf3(M:Nat)(hM1:M<18446744073709551616)(hM2:18446744073709551615<=M)(l:List UInt8):∀acc,acc<=M->(∀c∈l,48<=c.toNat/\c.toNat<=57) ->
  parseUintM M acc l=if qf4 acc l<=M then .ok (qf4 acc l) else .range:=by
 induction l with
 | nil=>intro acc h _;rw[if_pos (show qf4 acc []<=M from h)];rfl
 | cons c r ih=>
  intro acc h hd;have hc:=hd c (by simp);have N8:=le_decVal r (acc * 10+(c.toNat - 48));have e:qf4 acc (c::r)=qf4 (acc * 10+(c.toNat - 48)) r:=rfl;rw[e,parseUintM,if_pos hc]
  by_cases h1:1844674407370955162<=acc
  ·rw[if_pos h1,if_neg (by omega)]
  ·rw[if_neg h1]
   by_cases h2:M<acc * 10+(c.toNat - 48)
   ·rw[if_pos h2,if_neg (by omega)]
   ·rw[if_neg h2]
    exact ih _ (by omega) (λd FM=>hd d (by simp[FM]))
theorem vh6(l:List UInt8)(C1:l≠[])(hd:∀c∈l,48<=c.toNat/\c.toNat<=57):
  parseIntB 64 l=if qf4 0 l<=9223372036854775807 then .ok (qf4 0 l:Int) else .range:=by
 cases l with
 | nil=>exact absurd rfl C1
 | cons c r=>
  have hc:=hd c (by simp);have OC:¬(c.toNat=43\/c.toNat=45):=by omega
  have OA:¬c.toNat=45:=by omega
  have hp:(2:Nat) ^ (64 - 1)=9223372036854775808:=by decide +kernel
  unfold parseIntB parseUintB;simp only[if_neg OC,hp];rw[if_neg (List.cons_ne_nil c r),vf3 (2 ^ 64 - 1) (by decide +kernel) (by decide +kernel) _ 0 (Nat.zero_le _) hd]
  by_cases h:qf4 0 (c::r)<=2 ^ 64 - 1
  ·rw[if_pos h]
   by_cases h2:qf4 0 (c::r)<=9223372036854775807
   ·rw[if_pos h2];dsimp only
    rw[if_neg (by omega),if_neg (by omega),if_neg OA]
   ·rw[if_neg h2];dsimp only
    rw[if_pos (by omega)]
  ·rw[if_neg h,if_neg (by omega)]
end
end Go.Proofs.YtfkcaldjphakpaaGreatDoor
