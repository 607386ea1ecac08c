/- Contracts of the small functions of package lex: which bytes are spaces, digits, begin a word, go on a word. Contracts of lex.wordSize and lex.markKind. What strconv.ParseInt's contract says of digits alone: plain arithmetic. -/
import Derived.Test.YtfkcaldjphakpaaGreatDoorProg
import Derived.WalkKit
import Derived.WalkSpells
import Derived.WalkLawsBesides
import Derived.Lib.Strings
import Derived.Lib.ParseIntB
set_option maxHeartbeats 400000
namespace Go.Proofs.YtfkcaldjphakpaaGreatDoor
open Go.RowKit
section
theorem v7 {p:Prop} (h:p):Hid p:=h
theorem q9 {p:Prop} (h:Hid p):p:=h
theorem v9 {W w1:World} (hb:Below W.heap.size W w1):(∀b o,b<W.heap.size→w1.cell? ⟨b,o,none⟩=W.cell? ⟨b,o,none⟩)∧(∀b o,b<W.heap.size→w1.frozen? ⟨b,o,none⟩=W.frozen? ⟨b,o,none⟩):=
 ⟨fun b o h=>hb.cell (p:=⟨b,o,none⟩) h,fun b o h=>hb.frozen (p:=⟨b,o,none⟩) h⟩
theorem qb5 {w w':World} {o:Obj} (hb:Below (w.alloc o).heap.size (w.alloc o) w'):Below w.heap.size w w':=
 ((Below.refl _ _).alloc (Nat.le_refl _) _).trans (hb.mono (by simp))
def ErrOk (w:World):Prop:=3<w.heap.size∧∃ev,w.cell? ⟨3,0,none⟩=some ev∧(ev=.nilIface∨∃te pe,ev=.iface te pe)
theorem ErrOk.below {w w':World} {B:Nat} (h:ErrOk w) (hb:Below B w w') (hB:w.heap.size≤B):ErrOk w':=by
 obtain ⟨h1,ev,h2,h3⟩:=h
 refine ⟨Nat.lt_of_lt_of_le h1 hb.size,ev, ?_,h3⟩
 rw [hb.cell (p:=⟨3,0,none⟩) (Nat.lt_of_lt_of_le h1 hB)];exact h2
theorem ErrOk.alloc {w:World} (h:ErrOk w) (o:Obj):ErrOk (w.alloc o):=
 h.below ((Below.refl w.heap.size w).alloc (Nat.le_refl _) o) (Nat.le_refl _)
def spB (c:Int):Bool:=c==32||c==9||c==10
def va0 (c:Int):Bool:=decide (48≤c)&&decide (c≤57)
def qx8 (c:Int):Bool:=decide (65≤c)&&decide (c≤90)||decide (97≤c)&&decide (c≤122)||c==95||c==36
def goeB (c:Int):Bool:=qx8 c||va0 c||c==46
theorem qc0 {a b:Bool} (h:a=true↔b=true):Ending.returned (.bool a)=.returned (.bool b):=by
 rw [Bool.eq_iff_iff.2 h]
theorem vb6 (c:Int) (w:World) :
  Calls Tryz.prog 143 #[.int .u8 c] w fun e w'=>e=.returned (.bool (spB c))∧w'=w:=by
 unfold spB
 go_enter Tryz.func143,Tryz.ntmps143
 go_wp2
 all_goals (go_ret;exact ⟨qc0 (by simp<;>omega),rfl⟩)
theorem qi9 (c:Int) (w:World) :
  Calls Tryz.prog 192 #[.int .u8 c] w fun e w'=>e=.returned (.bool (va0 c))∧w'=w:=by
 unfold va0
 go_enter Tryz.func192,Tryz.ntmps192
 go_wp2
 all_goals (go_ret;exact ⟨qc0 (by simp<;>omega),rfl⟩)
theorem qg3 (c:Int) (w:World) :
  Calls Tryz.prog 190 #[.int .u8 c] w fun e w'=>e=.returned (.bool (qx8 c))∧w'=w:=by
 unfold qx8
 go_enter Tryz.func190,Tryz.ntmps190
 go_wp2
 all_goals (go_ret;exact ⟨qc0 (by simp<;>omega),rfl⟩)
theorem qu3 (c:Int) (w:World) :
  Calls Tryz.prog 201 #[.int .u8 c] w fun e w'=>e=.returned (.bool (goeB c))∧w'=w:=by
 unfold goeB
 go_enter Tryz.func201,Tryz.ntmps201
 go_wp2_with (first|(go_at_call 190;refine (qg3 _ _).mono ?_;rintro e w' ⟨rfl,rfl⟩)|(go_at_call 192;refine (qi9 _ _).mono ?_;rintro e w' ⟨rfl,rfl⟩))
 all_goals (go_ret;exact ⟨qc0 (by simp_all),rfl⟩)
end
section
def qa4 (p:UInt8→Bool):List UInt8→Nat
 | []=>0
 | c::t=>if p c then qa4 p t+1 else 0
def qs9 (c:UInt8):Bool:=goeB (c.toNat:Int)
def qx9 (c:UInt8):Bool:=qx8 (c.toNat:Int)
def qj7 (c:UInt8):Bool:=va0 (c.toNat:Int)
def spU (c:UInt8):Bool:=spB (c.toNat:Int)
theorem qx0 (p:UInt8→Bool) (l:List UInt8):qa4 p l≤l.length:=by
 induction l with
 | nil=>simp [qa4]
 | cons c t ih=>simp only [qa4];split<;>simp<;>omega
theorem qe7 (p:UInt8→Bool) (l:List UInt8) (k:Nat) (h:k<l.length) (hp:p (l[k])=true) :
  qa4 p (l.drop k)=qa4 p (l.drop (k+1))+1:=by
 rw [List.drop_eq_getElem_cons h];simp [qa4,hp]
theorem qf9 (p:UInt8→Bool) (l:List UInt8) (k:Nat) (h:k<l.length) (hp:p (l[k])=false) :
  qa4 p (l.drop k)=0:=by
 rw [List.drop_eq_getElem_cons h];simp [qa4,hp]
theorem qg7 (p:UInt8→Bool) (l:List UInt8) (k:Nat) (h:l.length≤k):qa4 p (l.drop k)=0:=by
 rw [List.drop_of_length_le h];rfl
def x5:List UInt8→Nat
 | []=>0
 | c::t=>if qx9 c then qa4 qs9 t+1 else 0
theorem j4 (s:ByteArray):s.data.toList.length=s.size:=by simp only [Array.length_toList];rfl
theorem j9 (s:ByteArray) (k:Nat) (h:k<s.size):s.data.toList[k]'(by rw [j4];exact h)=s[k]:=rfl
theorem qx3 {s:ByteArray} (h:0<s.size):s.toList.isEmpty=false:=by
 have hl:=j4 s
 rw [Lib.toList_data]
 cases he:s.data.toList with
 | nil=>rw [he] at hl;simp at hl;omega
 | cons c t=>rfl
theorem toList_em {s:ByteArray} (h:¬0<s.size):s.toList.isEmpty=true:=by
 have hl:=j4 s
 rw [Lib.toList_data,List.eq_nil_of_length_eq_zero (show s.data.toList.length=0 by omega)];rfl
theorem qf7 {k:IntKind} {a b:Int} (h:a=b):Ending.returned (.int k a)=.returned (.int k b):=by rw [h]
theorem vk2 (s:ByteArray) (h:0<s.size):x5 s.data.toList=if qx9 s[0] then qa4 qs9 (s.data.toList.drop 1)+1 else 0:=by
 have e:=List.drop_eq_getElem_cons (l:=s.data.toList) (i:=0) (by rw [j4];exact h)
 rw [List.drop_zero,j9 s 0 h] at e
 rw [e];rfl
theorem qm5 (s:ByteArray) (hs:s.size≤maxLen) (w:World) :
  Calls Tryz.prog 150 #[.string s] w fun e w'=>e=.returned (.int .i64 (x5 s.data.toList))∧w'=w:=by
 unfold maxLen at hs
 have hl:=j4 s
 by_cases h0:0<s.size
 ·have hne:s.toList.isEmpty=false:=qx3 h0
  have hw:=vk2 s h0
  cases hb:qx9 s[0] with
  | false=>
   rw [hb,if_neg (by simp)] at hw
   have H:=v7 hw
   have Hb:=v7 hb
   clear hw hb
   go_enter Tryz.func150,Tryz.ntmps150
   go_wp2_with (go_at_call 190;refine (qg3 _ _).mono ?_;rintro e w' ⟨rfl,rfl⟩;rw [show qx8 (s[0].toNat:Int)=false from q9 Hb])
   go_ret
   exact ⟨qf7 (by rw [q9 H];rfl),rfl⟩
  | true=>
   rw [hb,if_pos rfl] at hw
   have H:=v7 hw
   have Hb:=v7 hb
   clear hw hb
   go_enter Tryz.func150,Tryz.ntmps150
   go_wp2_with (go_at_call 190;refine (qg3 _ _).mono ?_;rintro e w' ⟨rfl,rfl⟩;rw [show qx8 (s[0].toNat:Int)=true from q9 Hb])
   go_loop [3] (fun i=>∃k:Nat,1≤k∧k≤s.size∧i=.int .i64 k∧Hid (qa4 qs9 (s.data.toList.drop 1)+1=qa4 qs9 (s.data.toList.drop k)+k)) (fun i=>s.size - (intOf i).toNat)
   case atStart=>exact ⟨1,Nat.le_refl _,by omega,rfl,v7 rfl⟩
   case round=>
    obtain ⟨k,hk1,hk,rfl,hr⟩:=hrel
    by_cases hlt:k<s.size
    ·cases hg:qs9 s[k] with
     | true=>
      have hr2:=qe7 qs9 s.data.toList k (by omega) hg
      have HR:Hid (qa4 qs9 (s.data.toList.drop 1)+1=qa4 qs9 (s.data.toList.drop (k+1))+(k+1)):=v7 (by rw [q9 hr,hr2];omega)
      have Hg:=v7 hg
      clear hr2 hg hr
      go_wp2_with (go_at_call 201;refine (qu3 _ _).mono ?_;rintro e w' ⟨rfl,rfl⟩;rw [show goeB (s[k].toNat:Int)=true from q9 Hg])
      go_round
      case rel=>exact ⟨k+1,by omega,by omega,by go_num,HR⟩
      case measure=>simp [intOf];omega
     | false=>
      have hr2:=qf9 qs9 s.data.toList k (by omega) hg
      have HR:Hid (qa4 qs9 (s.data.toList.drop 1)+1=k):=v7 (by rw [q9 hr,hr2];omega)
      have Hg:=v7 hg
      clear hr2 hg hr
      go_wp2_with (go_at_call 201;refine (qu3 _ _).mono ?_;rintro e w' ⟨rfl,rfl⟩;rw [show goeB (s[k].toNat:Int)=false from q9 Hg])
      go_ret
      exact ⟨qf7 (by rw [q9 H,q9 HR]),rfl⟩
    ·have hr2:=qg7 qs9 s.data.toList k (by omega)
     have HR:Hid (qa4 qs9 (s.data.toList.drop 1)+1=k):=v7 (by rw [q9 hr,hr2];omega)
     clear hr2 hr
     go_wp2_with fail
     go_ret
     exact ⟨qf7 (by rw [q9 H,q9 HR]),rfl⟩
 ·have hw:x5 s.data.toList=0:=by rw [List.eq_nil_of_length_eq_zero (show s.data.toList.length=0 by omega)];rfl
  have he:s.toList.isEmpty=true:=toList_em h0
  have H:=v7 hw
  clear hw
  go_enter Tryz.func150,Tryz.ntmps150
  go_wp2_with fail
  go_ret
  exact ⟨qf7 (by rw [q9 H];rfl),rfl⟩
end
section
open Go.Lib
def qh0 (acc:Nat):List UInt8→Nat
 | []=>acc
 | c::r=>qh0 (acc * 10+(c.toNat - 48)) r
theorem le_decVal (l:List UInt8):∀acc,acc≤qh0 acc l:=by
 induction l with
 | nil=>intro acc;exact Nat.le_refl _
 | cons c r ih=>intro acc;exact Nat.le_trans (by omega) (ih _)
theorem qy5 (M:Nat) (hM1:M<18446744073709551616) (hM2:18446744073709551615≤M) (l:List UInt8):∀acc,acc≤M→(∀c∈l,48≤c.toNat∧c.toNat≤57) →
  parseUintM M acc l=if qh0 acc l≤M then .ok (qh0 acc l) else .range:=by
 induction l with
 | nil=>intro acc h _;rw [if_pos (show qh0 acc []≤M from h)];rfl
 | cons c r ih=>
  intro acc h hd
  have hc:=hd c (by simp)
  have hle:=le_decVal r (acc * 10+(c.toNat - 48))
  have e:qh0 acc (c::r)=qh0 (acc * 10+(c.toNat - 48)) r:=rfl
  rw [e,parseUintM,if_pos hc]
  by_cases h1:1844674407370955162≤acc
  ·rw [if_pos h1,if_neg (by omega)]
  ·rw [if_neg h1]
   by_cases h2:M<acc * 10+(c.toNat - 48)
   ·rw [if_pos h2,if_neg (by omega)]
   ·rw [if_neg h2]
    exact ih _ (by omega) (fun d hd'=>hd d (by simp [hd']))
theorem va2 (l:List UInt8) (hne:l≠[]) (hd:∀c∈l,48≤c.toNat∧c.toNat≤57) :
  parseIntB 64 l=if qh0 0 l≤9223372036854775807 then .ok (qh0 0 l:Int) else .range:=by
 cases l with
 | nil=>exact absurd rfl hne
 | cons c r=>
  have hc:=hd c (by simp)
  have h43:¬(c.toNat=43∨c.toNat=45):=by omega
  have h45:¬c.toNat=45:=by omega
  have hp:(2:Nat) ^ (64 - 1)=9223372036854775808:=by decide +kernel
  unfold parseIntB parseUintB
  simp only [if_neg h43,hp]
  rw [if_neg (List.cons_ne_nil c r),qy5 (2 ^ 64 - 1) (by decide +kernel) (by decide +kernel) _ 0 (Nat.zero_le _) hd]
  by_cases h:qh0 0 (c::r)≤2 ^ 64 - 1
  ·rw [if_pos h]
   by_cases h2:qh0 0 (c::r)≤9223372036854775807
   ·rw [if_pos h2];dsimp only
    rw [if_neg (by omega),if_neg (by omega),if_neg h45]
   ·rw [if_neg h2];dsimp only
    rw [if_pos (by omega)]
  ·rw [if_neg h,if_neg (by omega)]
end
end Go.Proofs.YtfkcaldjphakpaaGreatDoor
