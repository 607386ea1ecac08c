/- The contract of lex.quoted: the walk. The contracts of lex.first, lex.Next and lex.IsName. The contracts of lex.Next and lex.IsName. -/
import Derived.Test.YtfkcaldjphakpabGreatDoorF02
set_option maxHeartbeats 800000
set_option maxRecDepth 100000
namespace Go.Proofs.YtfkcaldjphakpabGreatDoor
open Go.RowKit
section
theorem js4 {W w1 wr:World} {B:Nat} {v:Value} {n:Nat} {xs:List Value} {e:TypeId} (hb:Below B W wr) (hB:B≤wr.heap.size) (ho:wr.ownsRow B e 1 v n xs) (o:Obj)
  (hg:(wr.alloc o).grownBy w1 v.ownBlock):Below B W w1:=
 (hb.alloc hB o).grown hg (by simp;omega) fun k hk=>(ho.lt k hk).1
theorem jt6 (c:UInt8):((c.toNat:Int) != 39)=!(c==39):=by simp only [bne,u8_39]
theorem qy3 {l:List UInt8} {xs:List UInt8} {k:Nat} (h:qi0 (l.drop 1)=some (xs,k)):qu5 l=⟨4,0,xs⟩∧vm7 l=k+1:=by
 unfold qu5 vm7;rw [h];exact ⟨rfl,rfl⟩
theorem vx7 {l:List UInt8} (h:qi0 (l.drop 1)=none):qu5 l=qd8 1∧vm7 l=l.length:=by
 unfold qu5 vm7;rw [h];exact ⟨rfl,rfl⟩
theorem jz7 (s:ByteArray) (h0:0<s.size) (hs:s.size≤140737488355328) (w:World) :
  Calls Tryz.prog 179 #[.string s] w fun e w'=>e=.returned (.tuple #[tkV (qu5 s.data.toList) 0,.int .i64 (vm7 s.data.toList)])∧Below w.heap.size w w':=by
 have hl:=qb0 s
 obtain ⟨i0,hi,hz0,hz1,hz2⟩:=info_parts Tryz.info5u
 obtain ⟨TK,hTK⟩:∃t,qu5 s.data.toList=t:=⟨_,rfl⟩
 obtain ⟨Z,hZ⟩:∃t,vm7 s.data.toList=t:=⟨_,rfl⟩
 rw [hTK,hZ]
 have HTK:=v7 hTK
 have HZ:=v7 hZ
 clear hTK hZ
 go_enter Tryz.func179,Tryz.ntmps179
 go_wp2_with fail
 go_loopw [4,5] (fun v i wr=>∃(k:Nat) (xs:List UInt8),1≤k∧k≤s.size∧i=.int .i64 k∧Hid (QAt s.data.toList k xs)∧xs.length<k∧wr.ownsRow (w.heap.size+1) 5 1 v xs.length (xs.map fun c=>.int .u8 (c.toNat:Int))∧Below (w.heap.size+1) (w.alloc (.cells #[.int .i64 0,.int .i64 0,.int .i64 0,.string ⟨#[]⟩] 127)) wr)
  (fun _ i _=>s.size - (intOf i).toNat)
 case atStart=>exact ⟨1,[],Nat.le_refl _,by omega,rfl,v7 (QAt.start _),by simp,World.ownsRow_nil _ _ _ _,Below.refl _ _⟩
 case round=>
  obtain ⟨k,xs,hk1,hk,rfl,hq,hxl,hown,hb⟩:=hrel
  have hbs:w.heap.size+1≤wr.heap.size:=by have:=hb.size;simpa using this
  have hcv:=conv_own hown
  have hb':Below (w.alloc (.cells #[.int .i64 0,.int .i64 0,.int .i64 0,.string ⟨#[]⟩] 127)).heap.size (w.alloc (.cells #[.int .i64 0,.int .i64 0,.int .i64 0,.string ⟨#[]⟩] 127)) wr:=by simpa using hb
  obtain ⟨hc0,hf0⟩:=j6 hb'
  by_cases hlt:k<s.size
  ·cases hc:(s[k]==39) with
   | false=>
    have HQ:Hid (QAt s.data.toList (k+1) (xs++[s[k]])):=v7 ((q9 hq).one hk1 (by omega) (by rw [qc6 s k hlt];simpa using hc))
    have hc':((s[k].toNat:Int)==39)=false:=by rw [u8_39];exact hc
    clear hc hq
    go_wp2_with (at_builtin;refine wpList_append_own _ rfl _ _ 36 rfl (w.heap.size+1) 5 i0 (.int .u8 0) 1 1 Tryz.underlying36 hi hz0 hz1 hz2 rfl (by decide) _ _ _ rfl (hown.alloc _) ⟨wr.heap.size,0,none⟩ 1 1 [.int .u8 (s[k].toNat:Int)] rfl rfl ?c1 ?c2 ?c3 ?c4 ?c5 ?_)
    case c1=>
     intro j u hj
     match j,hj with
     | 0,hj=>simp at hj;subst hj;simp [Addr.add]
    case c2=>intro u hu;simp at hu;subst hu;rfl
    case c3=>unfold maxLen;omega
    case c4=>omega
    case c5=>simp;omega
    intro v' w1 hown' hgrow _
    have hb1:=js4 hb hbs hown _ hgrow
    have hown1:w1.ownsRow (w.heap.size+1) 5 1 v' (xs++[s[k]]).length ((xs++[s[k]]).map fun c=>.int .u8 (c.toNat:Int)):=by simpa using hown'
    clear hown' hgrow hown hcv hb hbs hb' hc0 hf0
    go_wp2_with fail
    go_roundw
    case rel=>exact ⟨k+1,xs++[s[k]],by omega,by omega,by go_num,HQ,by simp;omega,hown1,hb1⟩
    case measure=>simp [intOf];omega
   | true=>
    have hc':((s[k].toNat:Int)==39)=true:=by rw [u8_39];exact hc
    have hk39:s.data.toList[k]'(by omega)=39:=by rw [qc6 s k hlt];simpa using hc
    by_cases h2:k+1<s.size
    ·cases hd:(s[k+1]==39) with
     | true=>
      have HQ:Hid (QAt s.data.toList (k+2) (xs++[39])):=v7 ((q9 hq).two hk1 (by omega) hk39 (by rw [qc6 s (k+1) h2];simpa using hd))
      have hd1:((s[k+1].toNat:Int) != 39)=false:=by rw [jt6,hd];rfl
      have hd2:(s[k+1].toNat:Int)=39:=by rw [show s[k+1]=39 by simpa using hd];rfl
      have he:((k:Int)+1==(s.size:Int))=false:=beq_eq_false_iff_ne.2 (by omega)
      clear hc hq hd hk39
      go_wp2_with (at_builtin;refine wpList_append_own _ rfl _ _ 36 rfl (w.heap.size+1) 5 i0 (.int .u8 0) 1 1 Tryz.underlying36 hi hz0 hz1 hz2 rfl (by decide) _ _ _ rfl (hown.alloc _) ⟨wr.heap.size,0,none⟩ 1 1 [.int .u8 39] rfl rfl ?c1 ?c2 ?c3 ?c4 ?c5 ?_)
      case c1=>
       intro j u hj
       match j,hj with
       | 0,hj=>simp at hj;subst hj;simp [Addr.add]
      case c2=>intro u hu;simp at hu;subst hu;rfl
      case c3=>unfold maxLen;omega
      case c4=>omega
      case c5=>simp;omega
      intro v' w1 hown' hgrow _
      have hb1:=js4 hb hbs hown _ hgrow
      have hown1:w1.ownsRow (w.heap.size+1) 5 1 v' (xs++[(39:UInt8)]).length ((xs++[(39:UInt8)]).map fun c=>.int .u8 (c.toNat:Int)):=by simpa using hown'
      clear hown' hgrow hown hcv hb hbs hb' hc0 hf0
      go_wp2_with fail
      go_roundw
      case rel=>exact ⟨k+2,xs++[39],by omega,by omega,by go_num,HQ,by simp;omega,hown1,hb1⟩
      case measure=>simp [intOf];omega
     | false=>
      have HC:Hid (qi0 (s.data.toList.drop 1)=some (xs,k)):=v7 ((q9 hq).close hk1 (by omega) hk39 (fun _=>by rw [qc6 s (k+1) h2];simpa using hd))
      have hd1:((s[k+1].toNat:Int) != 39)=true:=by rw [jt6,hd];rfl
      have he:((k:Int)+1==(s.size:Int))=false:=beq_eq_false_iff_ne.2 (by omega)
      clear hc hq hd hk39
      go_wp2_with fail
      refine bodyPost_ret (by simp [results,Tryz.results179,go_sem,hc0];rfl) rfl ⟨?_, ?_⟩
      all_goals go_light
      ·exact qw3 (by rw [←q9 HTK,(qy3 (q9 HC)).1]) (by rw [←q9 HTK,(qy3 (q9 HC)).1]) (by rw [←q9 HTK,(qy3 (q9 HC)).1]) (by rw [←q9 HZ,(qy3 (q9 HC)).2];go_num)
      ·exact (((((qc4 hb').setCell (by simp) _).setCell (by simp) _).setCell (by simp) _).setCell (by simp) _)
    ·have HC:Hid (qi0 (s.data.toList.drop 1)=some (xs,k)):=v7 ((q9 hq).close hk1 (by omega) hk39 (fun h=>absurd h (by omega)))
     have he:((k:Int)+1==(s.size:Int))=true:=beq_iff_eq.2 (by omega)
     clear hc hq hk39
     go_wp2_with fail
     refine bodyPost_ret (by simp [results,Tryz.results179,go_sem,hc0];rfl) rfl ⟨?_, ?_⟩
     all_goals go_light
     ·exact qw3 (by rw [←q9 HTK,(qy3 (q9 HC)).1]) (by rw [←q9 HTK,(qy3 (q9 HC)).1]) (by rw [←q9 HTK,(qy3 (q9 HC)).1]) (by rw [←q9 HZ,(qy3 (q9 HC)).2];go_num)
     ·exact (((((qc4 hb').setCell (by simp) _).setCell (by simp) _).setCell (by simp) _).setCell (by simp) _)
  ·have HN:Hid (qi0 (s.data.toList.drop 1)=none):=v7 ((q9 hq).over (by omega))
   clear hq
   go_wp2_with fail
   refine bodyPost_ret (by simp [results,Tryz.results179,go_sem,hc0];rfl) rfl ⟨?_, ?_⟩
   all_goals go_light
   ·exact qw3 (by rw [←q9 HTK,(vx7 (q9 HN)).1];rfl) (by rw [←q9 HTK,(vx7 (q9 HN)).1];rfl) (by rw [←q9 HTK,(vx7 (q9 HN)).1];rfl) (by rw [←q9 HZ,(vx7 (q9 HN)).2,hl])
   ·exact (((((qc4 hb').setCell (by simp) _).setCell (by simp) _).setCell (by simp) _).setCell (by simp) _)
end
section
def qt4 (l:List UInt8):Tk:=match l with
 | []=>qd8 1
 | c::_=>if ju1 c then ve1 l else if qz4 c then vw8 l else if c==39 then qu5 l else qd8 (jc2 l)
def vg1 (l:List UInt8):Nat:=match l with
 | []=>1
 | c::_=>if ju1 c then qb5 l else if qz4 c then qb9 qz4 l else if c==39 then vm7 l else vw4 l
theorem first_at (s:ByteArray) (h:0<s.size) :
  qt4 s.data.toList=(if ju1 s[0] then ve1 s.data.toList else if qz4 s[0] then vw8 s.data.toList else if s[0]==39 then qu5 s.data.toList else qd8 (jc2 s.data.toList)) ∧
  vg1 s.data.toList=(if ju1 s[0] then qb5 s.data.toList else if qz4 s[0] then qb9 qz4 s.data.toList else if s[0]==39 then vm7 s.data.toList else vw4 s.data.toList):=by
 have e:=List.drop_eq_getElem_cons (l:=s.data.toList) (i:=0) (by rw [qb0];exact h)
 rw [List.drop_zero,qc6 s 0 h] at e
 constructor
 ·conv=>lhs;rw [e]
  conv=>rhs;rw [e]
  rfl
 ·conv=>lhs;rw [e]
  conv=>rhs;rw [e]
  rfl
theorem first_any (s:ByteArray) (h0:0<s.size) (hs:s.size≤140737488355328) (w:World) (hE:ErrOk w) :
  Calls Tryz.prog 131 #[.string s] w fun e w'=>e=.returned (.tuple #[tkV (qt4 s.data.toList) 0,.int .i64 (vg1 s.data.toList)])∧Below w.heap.size w w':=by
 obtain ⟨h1,h2⟩:=first_at s h0
 have hm:s.size≤maxLen:=by unfold maxLen;omega
 have HE:Hid (∀o,ErrOk (w.alloc o)):=v7 fun o=>hE.alloc o
 clear hE
 cases hb:ju1 s[0] with
 | true=>
  rw [hb,if_pos rfl] at h1 h2
  rw [h1,h2]
  have Hb:=v7 hb
  clear hb h1 h2
  go_enter Tryz.func131,Tryz.ntmps131
  go_wp2_with (first|(go_at_call 175;refine (qf2 _ _).mono ?_;rintro e w' ⟨rfl,rfl⟩;rw [show zc7 (s[0].toNat:Int)=true from q9 Hb])|(go_at_call 176;refine (word_any _ hs _).mono ?_;rintro e w' ⟨rfl,hb⟩;obtain ⟨hc,hf⟩:=j6 hb;have hz:=hb.size;simp only [tkV]))
  refine bodyPost_ret (by simp [results,Tryz.results131,go_sem,hc];rfl) rfl ⟨?_, ?_⟩
  all_goals go_light
  ·rfl
  ·exact ((((qc4 hb).setCell (by simp) _).setCell (by simp) _).setCell (by simp) _).setCell (by simp) _
 | false=>
  rw [hb,if_neg (by simp)] at h1 h2
  have Hb:=v7 hb
  clear hb
  cases hd:qz4 s[0] with
  | true=>
   rw [hd,if_pos rfl] at h1 h2
   rw [h1,h2]
   have Hd:=v7 hd
   clear hd h1 h2
   go_enter Tryz.func131,Tryz.ntmps131
   go_wp2_with (first|(go_at_call 175;refine (qf2 _ _).mono ?_;rintro e w' ⟨rfl,rfl⟩;rw [show zc7 (s[0].toNat:Int)=false from q9 Hb])|(go_at_call 177;refine (qj6 _ _).mono ?_;rintro e w' ⟨rfl,rfl⟩;rw [show zc9 (s[0].toNat:Int)=true from q9 Hd])|(go_at_call 178;refine (jy6 _ h0 hs (q9 Hd) _ (q9 HE _)).mono ?_;rintro e w' ⟨rfl,hb⟩;obtain ⟨hc,hf⟩:=j6 hb;have hz:=hb.size;simp only [tkV]))
   refine bodyPost_ret (by simp [results,Tryz.results131,go_sem,hc];rfl) rfl ⟨?_, ?_⟩
   all_goals go_light
   ·rfl
   ·exact ((((qc4 hb).setCell (by simp) _).setCell (by simp) _).setCell (by simp) _).setCell (by simp) _
  | false=>
   rw [hd,if_neg (by simp)] at h1 h2
   have Hd:=v7 hd
   clear hd
   cases hq:(s[0]==39) with
   | true=>
    rw [hq,if_pos rfl] at h1 h2
    rw [h1,h2]
    have hq':((s[0].toNat:Int)==39)=true:=by rw [u8_39];exact hq
    clear hq h1 h2
    go_enter Tryz.func131,Tryz.ntmps131
    go_wp2_with (first|(go_at_call 175;refine (qf2 _ _).mono ?_;rintro e w' ⟨rfl,rfl⟩;rw [show zc7 (s[0].toNat:Int)=false from q9 Hb])|(go_at_call 177;refine (qj6 _ _).mono ?_;rintro e w' ⟨rfl,rfl⟩;rw [show zc9 (s[0].toNat:Int)=false from q9 Hd])|(go_at_call 179;refine (jz7 _ h0 hs _).mono ?_;rintro e w' ⟨rfl,hb⟩;obtain ⟨hc,hf⟩:=j6 hb;have hz:=hb.size;simp only [tkV]))
    refine bodyPost_ret (by simp [results,Tryz.results131,go_sem,hc];rfl) rfl ⟨?_, ?_⟩
    all_goals go_light
    ·rfl
    ·exact ((((qc4 hb).setCell (by simp) _).setCell (by simp) _).setCell (by simp) _).setCell (by simp) _
   | false=>
    rw [hq,if_neg (by simp)] at h1 h2
    rw [h1,h2]
    have hq':((s[0].toNat:Int)==39)=false:=by rw [u8_39];exact hq
    clear hq h1 h2
    go_enter Tryz.func131,Tryz.ntmps131
    go_wp2_with (first|(go_at_call 175;refine (qf2 _ _).mono ?_;rintro e w' ⟨rfl,rfl⟩;rw [show zc7 (s[0].toNat:Int)=false from q9 Hb])|(go_at_call 177;refine (qj6 _ _).mono ?_;rintro e w' ⟨rfl,rfl⟩;rw [show zc9 (s[0].toNat:Int)=false from q9 Hd])|(go_at_call 180;refine (mark_any _ h0 hm _).mono ?_;rintro e w' ⟨rfl,hb⟩;obtain ⟨hc,hf⟩:=j6 hb;have hz:=hb.size;simp only [tkV]))
    refine bodyPost_ret (by simp [results,Tryz.results131,go_sem,hc];rfl) rfl ⟨?_, ?_⟩
    all_goals go_light
    ·rfl
    ·exact ((((qc4 hb).setCell (by simp) _).setCell (by simp) _).setCell (by simp) _).setCell (by simp) _
def qf8 (l:List UInt8) (k:Nat):Nat:=k+qb9 spU (l.drop k)
def qi7 (l:List UInt8) (k:Nat):Tk:=if qf8 l k<l.length then qt4 (l.drop (qf8 l k)) else qd8 0
def qm0 (l:List UInt8) (k:Nat):Nat:=if qf8 l k<l.length then qf8 l k+vg1 (l.drop (qf8 l k)) else l.length
theorem jc3 (l:List UInt8) (k:Nat) (h:k≤l.length):qf8 l k≤l.length:=by
 have:=vd0 spU (l.drop k);rw [List.length_drop] at this;unfold qf8;omega
theorem mark_le (l:List UInt8) (h:0<l.length):vw4 l≤l.length:=by
 unfold vw4;split
 ·simp at h
 ·simp
 ·split<;>simp
theorem quotF_le:∀(n:Nat) (l:List UInt8),l.length≤n→∀r,qi0 l=some r→r.2≤l.length:=by
 intro n
 induction n with
 | zero=>
  intro l hl r h;have:l=[]:=List.eq_nil_of_length_eq_zero (by omega)
  subst this;simp [qi0] at h
 | succ n ih=>
  intro l hl r h
  match l,hl,h with
  | [],_,h=>simp [qi0] at h
  | [c],_,h=>
   simp only [qi0] at h
   split at h
   ·simp at h;subst h;simp
   ·simp at h
  | c::d::t,hl,h=>
   simp only [qi0] at h
   simp only [List.length_cons] at hl
   split at h
   ·split at h
    ·cases hq:qi0 t with
     | none=>rw [hq] at h;simp at h
     | some q=>
      rw [hq] at h;simp at h;subst h
      have:=ih t (by omega) q hq;simp;omega
    ·simp at h;subst h;simp
   ·cases hq:qi0 (d::t) with
    | none=>rw [hq] at h;simp at h
    | some q=>
     rw [hq] at h;simp at h;subst h
     have:=ih (d::t) (by simp;omega) q hq;simp at this ⊢;omega
theorem quotS_le (l:List UInt8) (h:0<l.length):vm7 l≤l.length:=by
 unfold vm7;split
 ·rename_i r hr
  have:=quotF_le _ (l.drop 1) (Nat.le_refl _) r hr
  rw [List.length_drop] at this;omega
 ·exact Nat.le_refl _
theorem jb5 (l:List UInt8) (h:0<l.length):vg1 l≤l.length:=by
 cases l with
 | nil=>simp at h
 | cons c t=>
  simp only [vg1]
  split
  ·exact vp7 _
  ·split
   ·exact vd0 _ _
   ·split
    ·exact quotS_le _ h
    ·exact mark_le _ h
theorem jc4 (l:List UInt8) (k:Nat):qm0 l k≤l.length:=by
 unfold qm0;split
 ·have:=jb5 (l.drop (qf8 l k)) (by rw [List.length_drop];omega)
  rw [List.length_drop] at this;omega
 ·exact Nat.le_refl _
end
section
theorem jt5 {t:Tk} {p p' z z':Int} (hp:p=p') (hz:z=z') :
  Ending.returned (.tuple #[.agg #[.int .i64 t.kind,.int .i64 p,.int .i64 t.num,.string (BS t.str)],.int .i64 z])=.returned (.tuple #[tkV t p',.int .i64 z']):=by
 rw [hp,hz];rfl
theorem next_any (s:ByteArray) (hs:s.size≤140737488355328) (f:Nat) (hf:f≤s.size) (w:World) (hE:ErrOk w) :
  Calls Tryz.prog 84 #[.string s,.int .i64 f] w fun e w'=>e=.returned (.tuple #[tkV (qi7 s.data.toList f) (qf8 s.data.toList f),.int .i64 (qm0 s.data.toList f)])∧Below w.heap.size w w':=by
 have hl:=qb0 s
 have hle:=jc3 s.data.toList f (by omega)
 have HE:Hid (∀o,ErrOk (w.alloc o)):=v7 fun o=>hE.alloc o
 clear hE
 obtain ⟨A,hA⟩:∃a,qf8 s.data.toList f=a:=⟨_,rfl⟩
 have hT:qi7 s.data.toList f=if A<s.data.toList.length then qt4 (s.data.toList.drop A) else qd8 0:=by rw [←hA];rfl
 have hZ:qm0 s.data.toList f=if A<s.data.toList.length then A+vg1 (s.data.toList.drop A) else s.data.toList.length:=by rw [←hA];rfl
 obtain ⟨T,hT'⟩:∃t,qi7 s.data.toList f=t:=⟨_,rfl⟩
 obtain ⟨Z,hZ'⟩:∃t,qm0 s.data.toList f=t:=⟨_,rfl⟩
 rw [hT'] at hT
 rw [hZ'] at hZ
 rw [hA] at hle
 rw [hA,hT',hZ']
 have HA:Hid (A=f+qb9 spU (s.data.toList.drop f)):=v7 (by rw [←hA];rfl)
 have HT:=v7 hT
 have HZ:=v7 hZ
 clear hT hZ hT' hZ' hA
 go_enter Tryz.func84,Tryz.ntmps84
 go_wp2_with fail
 go_loop [6] (fun i=>∃k:Nat,f≤k∧k≤s.size∧i=.int .i64 k∧Hid (A=qb9 spU (s.data.toList.drop k)+k)) (fun i=>s.size - (intOf i).toNat)
 case atStart=>exact ⟨f,Nat.le_refl _,hf,rfl,v7 (by rw [Nat.add_comm];exact q9 HA)⟩
 case round=>
  obtain ⟨k,hk1,hk,rfl,hr⟩:=hrel
  have more:∀hlt:k<s.size,spU s[k]=true→Hid (A=qb9 spU (s.data.toList.drop (k+1))+(k+1)):=fun hlt hg=>v7 (by
   have:=qj4 spU s.data.toList k (by omega) hg;rw [q9 hr,this];omega)
  have done1:∀hlt:k<s.size,spU s[k]=false→A=k:=fun hlt hg=>by
   have:=qq0 spU s.data.toList k (by omega) hg;rw [q9 hr,this];omega
  have done2:¬k<s.size→A=k:=fun hlt=>by
   have:=qs0 spU s.data.toList k (by omega);rw [q9 hr,this];omega
  clear hr
  by_cases hlt:k<s.size
  ·cases hg:spU s[k] with
   | true=>
    have HR:=more hlt hg
    have Hg:=v7 hg
    clear more done1 done2 hg
    go_wp2_with (go_at_call 130;refine (vk0 _ _).mono ?_;rintro e w' ⟨rfl,rfl⟩;rw [show spB (s[k].toNat:Int)=true from q9 Hg])
    go_round
    case rel=>exact ⟨k+1,by omega,by omega,by go_num,HR⟩
    case measure=>simp [intOf];omega
   | false=>
    have hA:=done1 hlt hg
    have Hg:=v7 hg
    clear more done1 done2 hg
    subst hA
    rw [if_pos (by omega)] at HT HZ
    have hx:(s.extract A s.size).data.toList=s.data.toList.drop A:=Lib.extract_to_end s A
    have hfl:=jb5 (s.data.toList.drop A) (by rw [List.length_drop];omega)
    rw [List.length_drop,hl] at hfl
    have HX:=v7 hx
    clear hx
    go_wp2_with (first|(go_at_call 130;refine (vk0 _ _).mono ?_;rintro e w' ⟨rfl,rfl⟩;rw [show spB (s[A].toNat:Int)=false from q9 Hg])|(go_at_call 131;refine (first_any _ (by simp;omega) (by simp;omega) _ (q9 HE _)).mono ?_;rintro e w' ⟨rfl,hb⟩;obtain ⟨hc,hfz⟩:=j6 hb;have hz:w.heap.size<w'.heap.size:=(by have:=hb.size;simp at this;omega);rw [q9 HX];simp only [tkV]))
    refine bodyPost_ret (by simp [results,Tryz.results84,go_sem,hc,hz];rfl) rfl ⟨?_, ?_⟩
    all_goals go_light
    ·rw [q9 HT,q9 HZ];exact jt5 rfl (by omega)
    ·exact (((((qc4 hb).setCell (by simp) _).setCell (by simp) _).setCell (by simp) _).setCell (by simp) _).alloc (by simp;omega) _
  ·have hA:=done2 hlt
   clear more done1 done2
   subst hA
   rw [if_neg (by omega)] at HT HZ
   go_wp2_with fail
   refine bodyPost_ret (by simp [results,Tryz.results84,go_sem];rfl) rfl ⟨?_, ?_⟩
   all_goals go_light
   ·rw [q9 HT,q9 HZ];exact jt5 (t:=qd8 0) (by omega) (by omega)
   ·exact (Below.refl _ _).alloc (Nat.le_refl _) _
def nameB (l:List UInt8):Bool:=decide (0<qb5 l)&&decide (qb5 l=l.length)&&(vp6 l==2)
theorem jk2 {l:List UInt8} (h:qb5 l=l.length):∀c∈l,c.toNat<128:=by
 have:=vu5 l
 rw [h,List.take_length] at this;exact this
theorem jx6 (s:ByteArray) (hs:s.size≤140737488355328) (w:World) :
  Calls Tryz.prog 97 #[.string s] w fun e w'=>e=.returned (.bool (nameB s.data.toList))∧Below w.heap.size w w':=by
 have hm:s.size≤maxLen:=by unfold maxLen;omega
 have hl:=qb0 s
 have hn:nameB s.data.toList=(decide (0<qb5 s.data.toList)&&decide (qb5 s.data.toList=s.size)&&(vp6 s.data.toList==2)):=by unfold nameB;rw [hl]
 have ha:=fun h=>jk2 (l:=s.data.toList) h
 rw [hn]
 generalize hz:qb5 s.data.toList=z at *
 generalize hk:vp6 s.data.toList=k at *
 have HZ:=v7 hz
 have HK:=v7 hk
 clear hz hk hn
 by_cases h0:0<z
 ·by_cases h1:z=s.size
  ·have HA:=v7 (ha (by omega))
   have h1':((z:Int)==(s.size:Int))=true:=beq_iff_eq.2 (by omega)
   have H1:=v7 h1
   clear ha h1
   go_enter Tryz.func97,Tryz.ntmps97
   go_wp2_with (first|(go_at_call 143;refine (qp5 _ hm _).mono ?_;rintro e w' ⟨rfl,rfl⟩;rw [q9 HZ])|(go_at_call 144;refine (qy9 _ hs (q9 HA) _).mono ?_;rintro e w' ⟨rfl,hb⟩;rw [q9 HK]))
   all_goals (go_ret;exact ⟨qe7 (by have:=q9 H1;simp_all),by assumption⟩)
  ·have h1':((z:Int)==(s.size:Int))=false:=beq_eq_false_iff_ne.2 (by omega)
   have H1:=v7 h1
   clear ha h1
   go_enter Tryz.func97,Tryz.ntmps97
   go_wp2_with (first|(go_at_call 143;refine (qp5 _ hm _).mono ?_;rintro e w' ⟨rfl,rfl⟩;rw [q9 HZ]))
   go_ret
   exact ⟨qe7 (by have:=q9 H1;simp [this]),Below.refl _ _⟩
 ·clear ha
  go_enter Tryz.func97,Tryz.ntmps97
  go_wp2_with (first|(go_at_call 143;refine (qp5 _ hm _).mono ?_;rintro e w' ⟨rfl,rfl⟩;rw [q9 HZ]))
  go_ret
  exact ⟨qe7 (by simp;omega),Below.refl _ _⟩
end
end Go.Proofs.YtfkcaldjphakpabGreatDoor
