/- The contract of lex.quoted: the walk. The contracts of lex.first, lex.Next and lex.IsName. -/
import Derived.Test.YtfkcaldjphakpaaGreatDoorE02
set_option maxHeartbeats 800000
set_option maxRecDepth 100000
namespace Go.Proofs.YtfkcaldjphakpaaGreatDoor
open Go.RowKit
section
theorem vz8 {W w1 wr:World} {B:Nat} {v:Value} {n:Nat} {xs:List Value} {e:TypeId} (hb:Below B W wr) (hB:B≤wr.heap.size) (ho:wr.ownsRow B e 1 v n xs) (o:Obj)
  (hg:(wr.alloc o).grownBy w1 v.ownBlock):Below B W w1:=
 (hb.alloc hB o).grown hg (by simp;omega) fun k hk=>(ho.lt k hk).1
theorem ja7 (c:UInt8):((c.toNat:Int) != 39)=!(c==39):=by simp only [bne,u8_39]
theorem qr8 {l:List UInt8} {xs:List UInt8} {k:Nat} (h:qh3 (l.drop 1)=some (xs,k)):qh9 l=⟨4,0,xs⟩∧qt1 l=k+1:=by
 unfold qh9 qt1;rw [h];exact ⟨rfl,rfl⟩
theorem vc5 {l:List UInt8} (h:qh3 (l.drop 1)=none):qh9 l=j6 1∧qt1 l=l.length:=by
 unfold qh9 qt1;rw [h];exact ⟨rfl,rfl⟩
theorem je8 (s:ByteArray) (h0:0<s.size) (hs:s.size≤140737488355328) (w:World) :
  Calls Tryz.prog 194 #[.string s] w fun e w'=>e=.returned (.tuple #[tkV (qh9 s.data.toList) 0,.int .i64 (qt1 s.data.toList)])∧Below w.heap.size w w':=by
 have hl:=j4 s
 obtain ⟨i0,hi,hz0,hz1,hz2⟩:=info_parts Tryz.info5u
 obtain ⟨TK,hTK⟩:∃t,qh9 s.data.toList=t:=⟨_,rfl⟩
 obtain ⟨Z,hZ⟩:∃t,qt1 s.data.toList=t:=⟨_,rfl⟩
 rw [hTK,hZ]
 have HTK:=v7 hTK
 have HZ:=v7 hZ
 clear hTK hZ
 go_enter Tryz.func194,Tryz.ntmps194
 go_wp2_with fail
 go_loopw [4,5] (fun v i wr=>∃(k:Nat) (xs:List UInt8),1≤k∧k≤s.size∧i=.int .i64 k∧Hid (QAt s.data.toList k xs)∧xs.length<k∧wr.ownsRow (w.heap.size+1) 5 1 v xs.length (xs.map fun c=>.int .u8 (c.toNat:Int))∧Below (w.heap.size+1) (w.alloc (.cells #[.int .i64 0,.int .i64 0,.int .i64 0,.string ⟨#[]⟩] 91)) wr)
  (fun _ i _=>s.size - (intOf i).toNat)
 case atStart=>exact ⟨1,[],Nat.le_refl _,by omega,rfl,v7 (QAt.start _),by simp,World.ownsRow_nil _ _ _ _,Below.refl _ _⟩
 case round=>
  obtain ⟨k,xs,hk1,hk,rfl,hq,hxl,hown,hb⟩:=hrel
  have hbs:w.heap.size+1≤wr.heap.size:=by have:=hb.size;simpa using this
  have hcv:=conv_own hown
  have hb':Below (w.alloc (.cells #[.int .i64 0,.int .i64 0,.int .i64 0,.string ⟨#[]⟩] 91)).heap.size (w.alloc (.cells #[.int .i64 0,.int .i64 0,.int .i64 0,.string ⟨#[]⟩] 91)) wr:=by simpa using hb
  obtain ⟨hc0,hf0⟩:=v9 hb'
  by_cases hlt:k<s.size
  ·cases hc:(s[k]==39) with
   | false=>
    have HQ:Hid (QAt s.data.toList (k+1) (xs++[s[k]])):=v7 ((q9 hq).one hk1 (by omega) (by rw [j9 s k hlt];simpa using hc))
    have hc':((s[k].toNat:Int)==39)=false:=by rw [u8_39];exact hc
    clear hc hq
    go_wp2_with (at_builtin;refine wpList_append_own _ rfl _ _ 51 rfl (w.heap.size+1) 5 i0 (.int .u8 0) 1 1 Tryz.underlying51 hi hz0 hz1 hz2 rfl (by decide) _ _ _ rfl (hown.alloc _) ⟨wr.heap.size,0,none⟩ 1 1 [.int .u8 (s[k].toNat:Int)] rfl rfl ?c1 ?c2 ?c3 ?c4 ?c5 ?_)
    case c1=>
     intro j u hj
     match j,hj with
     | 0,hj=>simp at hj;subst hj;simp [Addr.add]
    case c2=>intro u hu;simp at hu;subst hu;rfl
    case c3=>unfold maxLen;omega
    case c4=>omega
    case c5=>simp;omega
    intro v' w1 hown' hgrow _
    have hb1:=vz8 hb hbs hown _ hgrow
    have hown1:w1.ownsRow (w.heap.size+1) 5 1 v' (xs++[s[k]]).length ((xs++[s[k]]).map fun c=>.int .u8 (c.toNat:Int)):=by simpa using hown'
    clear hown' hgrow hown hcv hb hbs hb' hc0 hf0
    go_wp2_with fail
    go_roundw
    case rel=>exact ⟨k+1,xs++[s[k]],by omega,by omega,by go_num,HQ,by simp;omega,hown1,hb1⟩
    case measure=>simp [intOf];omega
   | true=>
    have hc':((s[k].toNat:Int)==39)=true:=by rw [u8_39];exact hc
    have hk39:s.data.toList[k]'(by omega)=39:=by rw [j9 s k hlt];simpa using hc
    by_cases h2:k+1<s.size
    ·cases hd:(s[k+1]==39) with
     | true=>
      have HQ:Hid (QAt s.data.toList (k+2) (xs++[39])):=v7 ((q9 hq).two hk1 (by omega) hk39 (by rw [j9 s (k+1) h2];simpa using hd))
      have hd1:((s[k+1].toNat:Int) != 39)=false:=by rw [ja7,hd];rfl
      have hd2:(s[k+1].toNat:Int)=39:=by rw [show s[k+1]=39 by simpa using hd];rfl
      have he:((k:Int)+1==(s.size:Int))=false:=beq_eq_false_iff_ne.2 (by omega)
      clear hc hq hd hk39
      go_wp2_with (at_builtin;refine wpList_append_own _ rfl _ _ 51 rfl (w.heap.size+1) 5 i0 (.int .u8 0) 1 1 Tryz.underlying51 hi hz0 hz1 hz2 rfl (by decide) _ _ _ rfl (hown.alloc _) ⟨wr.heap.size,0,none⟩ 1 1 [.int .u8 39] rfl rfl ?c1 ?c2 ?c3 ?c4 ?c5 ?_)
      case c1=>
       intro j u hj
       match j,hj with
       | 0,hj=>simp at hj;subst hj;simp [Addr.add]
      case c2=>intro u hu;simp at hu;subst hu;rfl
      case c3=>unfold maxLen;omega
      case c4=>omega
      case c5=>simp;omega
      intro v' w1 hown' hgrow _
      have hb1:=vz8 hb hbs hown _ hgrow
      have hown1:w1.ownsRow (w.heap.size+1) 5 1 v' (xs++[(39:UInt8)]).length ((xs++[(39:UInt8)]).map fun c=>.int .u8 (c.toNat:Int)):=by simpa using hown'
      clear hown' hgrow hown hcv hb hbs hb' hc0 hf0
      go_wp2_with fail
      go_roundw
      case rel=>exact ⟨k+2,xs++[39],by omega,by omega,by go_num,HQ,by simp;omega,hown1,hb1⟩
      case measure=>simp [intOf];omega
     | false=>
      have HC:Hid (qh3 (s.data.toList.drop 1)=some (xs,k)):=v7 ((q9 hq).close hk1 (by omega) hk39 (fun _=>by rw [j9 s (k+1) h2];simpa using hd))
      have hd1:((s[k+1].toNat:Int) != 39)=true:=by rw [ja7,hd];rfl
      have he:((k:Int)+1==(s.size:Int))=false:=beq_eq_false_iff_ne.2 (by omega)
      clear hc hq hd hk39
      go_wp2_with fail
      refine bodyPost_ret (by simp [results,Tryz.results194,go_sem,hc0];rfl) rfl ⟨?_, ?_⟩
      all_goals go_light
      ·exact qs2 (by rw [←q9 HTK,(qr8 (q9 HC)).1]) (by rw [←q9 HTK,(qr8 (q9 HC)).1]) (by rw [←q9 HTK,(qr8 (q9 HC)).1]) (by rw [←q9 HZ,(qr8 (q9 HC)).2];go_num)
      ·exact (((((qb5 hb').setCell (by simp) _).setCell (by simp) _).setCell (by simp) _).setCell (by simp) _)
    ·have HC:Hid (qh3 (s.data.toList.drop 1)=some (xs,k)):=v7 ((q9 hq).close hk1 (by omega) hk39 (fun h=>absurd h (by omega)))
     have he:((k:Int)+1==(s.size:Int))=true:=beq_iff_eq.2 (by omega)
     clear hc hq hk39
     go_wp2_with fail
     refine bodyPost_ret (by simp [results,Tryz.results194,go_sem,hc0];rfl) rfl ⟨?_, ?_⟩
     all_goals go_light
     ·exact qs2 (by rw [←q9 HTK,(qr8 (q9 HC)).1]) (by rw [←q9 HTK,(qr8 (q9 HC)).1]) (by rw [←q9 HTK,(qr8 (q9 HC)).1]) (by rw [←q9 HZ,(qr8 (q9 HC)).2];go_num)
     ·exact (((((qb5 hb').setCell (by simp) _).setCell (by simp) _).setCell (by simp) _).setCell (by simp) _)
  ·have HN:Hid (qh3 (s.data.toList.drop 1)=none):=v7 ((q9 hq).over (by omega))
   clear hq
   go_wp2_with fail
   refine bodyPost_ret (by simp [results,Tryz.results194,go_sem,hc0];rfl) rfl ⟨?_, ?_⟩
   all_goals go_light
   ·exact qs2 (by rw [←q9 HTK,(vc5 (q9 HN)).1];rfl) (by rw [←q9 HTK,(vc5 (q9 HN)).1];rfl) (by rw [←q9 HTK,(vc5 (q9 HN)).1];rfl) (by rw [←q9 HZ,(vc5 (q9 HN)).2,hl])
   ·exact (((((qb5 hb').setCell (by simp) _).setCell (by simp) _).setCell (by simp) _).setCell (by simp) _)
end
section
def qe4 (l:List UInt8):Tk:=match l with
 | []=>j6 1
 | c::_=>if qx9 c then qi4 l else if qj7 c then qq6 l else if c==39 then qh9 l else j6 (qp8 l)
def qu2 (l:List UInt8):Nat:=match l with
 | []=>1
 | c::_=>if qx9 c then x5 l else if qj7 c then qa4 qj7 l else if c==39 then qt1 l else qs7 l
theorem first_at (s:ByteArray) (h:0<s.size) :
  qe4 s.data.toList=(if qx9 s[0] then qi4 s.data.toList else if qj7 s[0] then qq6 s.data.toList else if s[0]==39 then qh9 s.data.toList else j6 (qp8 s.data.toList)) ∧
  qu2 s.data.toList=(if qx9 s[0] then x5 s.data.toList else if qj7 s[0] then qa4 qj7 s.data.toList else if s[0]==39 then qt1 s.data.toList else qs7 s.data.toList):=by
 have e:=List.drop_eq_getElem_cons (l:=s.data.toList) (i:=0) (by rw [j4];exact h)
 rw [List.drop_zero,j9 s 0 h] at e
 constructor
 ·conv=>lhs;rw [e]
  conv=>rhs;rw [e]
  rfl
 ·conv=>lhs;rw [e]
  conv=>rhs;rw [e]
  rfl
theorem first_any (s:ByteArray) (h0:0<s.size) (hs:s.size≤140737488355328) (w:World) (hE:ErrOk w) :
  Calls Tryz.prog 144 #[.string s] w fun e w'=>e=.returned (.tuple #[tkV (qe4 s.data.toList) 0,.int .i64 (qu2 s.data.toList)])∧Below w.heap.size w w':=by
 obtain ⟨h1,h2⟩:=first_at s h0
 have hm:s.size≤maxLen:=by unfold maxLen;omega
 have HE:Hid (∀o,ErrOk (w.alloc o)):=v7 fun o=>hE.alloc o
 clear hE
 cases hb:qx9 s[0] with
 | true=>
  rw [hb,if_pos rfl] at h1 h2
  rw [h1,h2]
  have Hb:=v7 hb
  clear hb h1 h2
  go_enter Tryz.func144,Tryz.ntmps144
  go_wp2_with (first|(go_at_call 190;refine (qg3 _ _).mono ?_;rintro e w' ⟨rfl,rfl⟩;rw [show qx8 (s[0].toNat:Int)=true from q9 Hb])|(go_at_call 191;refine (word_any _ hs _).mono ?_;rintro e w' ⟨rfl,hb⟩;obtain ⟨hc,hf⟩:=v9 hb;have hz:=hb.size;simp only [tkV]))
  refine bodyPost_ret (by simp [results,Tryz.results144,go_sem,hc];rfl) rfl ⟨?_, ?_⟩
  all_goals go_light
  ·rfl
  ·exact ((((qb5 hb).setCell (by simp) _).setCell (by simp) _).setCell (by simp) _).setCell (by simp) _
 | false=>
  rw [hb,if_neg (by simp)] at h1 h2
  have Hb:=v7 hb
  clear hb
  cases hd:qj7 s[0] with
  | true=>
   rw [hd,if_pos rfl] at h1 h2
   rw [h1,h2]
   have Hd:=v7 hd
   clear hd h1 h2
   go_enter Tryz.func144,Tryz.ntmps144
   go_wp2_with (first|(go_at_call 190;refine (qg3 _ _).mono ?_;rintro e w' ⟨rfl,rfl⟩;rw [show qx8 (s[0].toNat:Int)=false from q9 Hb])|(go_at_call 192;refine (qi9 _ _).mono ?_;rintro e w' ⟨rfl,rfl⟩;rw [show va0 (s[0].toNat:Int)=true from q9 Hd])|(go_at_call 193;refine (je4 _ h0 hs (q9 Hd) _ (q9 HE _)).mono ?_;rintro e w' ⟨rfl,hb⟩;obtain ⟨hc,hf⟩:=v9 hb;have hz:=hb.size;simp only [tkV]))
   refine bodyPost_ret (by simp [results,Tryz.results144,go_sem,hc];rfl) rfl ⟨?_, ?_⟩
   all_goals go_light
   ·rfl
   ·exact ((((qb5 hb).setCell (by simp) _).setCell (by simp) _).setCell (by simp) _).setCell (by simp) _
  | false=>
   rw [hd,if_neg (by simp)] at h1 h2
   have Hd:=v7 hd
   clear hd
   cases hq:(s[0]==39) with
   | true=>
    rw [hq,if_pos rfl] at h1 h2
    rw [h1,h2]
    have hq':((s[0].toNat:Int)==39)=true:=by rw [u8_39];exact hq
    clear hq h1 h2
    go_enter Tryz.func144,Tryz.ntmps144
    go_wp2_with (first|(go_at_call 190;refine (qg3 _ _).mono ?_;rintro e w' ⟨rfl,rfl⟩;rw [show qx8 (s[0].toNat:Int)=false from q9 Hb])|(go_at_call 192;refine (qi9 _ _).mono ?_;rintro e w' ⟨rfl,rfl⟩;rw [show va0 (s[0].toNat:Int)=false from q9 Hd])|(go_at_call 194;refine (je8 _ h0 hs _).mono ?_;rintro e w' ⟨rfl,hb⟩;obtain ⟨hc,hf⟩:=v9 hb;have hz:=hb.size;simp only [tkV]))
    refine bodyPost_ret (by simp [results,Tryz.results144,go_sem,hc];rfl) rfl ⟨?_, ?_⟩
    all_goals go_light
    ·rfl
    ·exact ((((qb5 hb).setCell (by simp) _).setCell (by simp) _).setCell (by simp) _).setCell (by simp) _
   | false=>
    rw [hq,if_neg (by simp)] at h1 h2
    rw [h1,h2]
    have hq':((s[0].toNat:Int)==39)=false:=by rw [u8_39];exact hq
    clear hq h1 h2
    go_enter Tryz.func144,Tryz.ntmps144
    go_wp2_with (first|(go_at_call 190;refine (qg3 _ _).mono ?_;rintro e w' ⟨rfl,rfl⟩;rw [show qx8 (s[0].toNat:Int)=false from q9 Hb])|(go_at_call 192;refine (qi9 _ _).mono ?_;rintro e w' ⟨rfl,rfl⟩;rw [show va0 (s[0].toNat:Int)=false from q9 Hd])|(go_at_call 195;refine (mark_any _ h0 hm _).mono ?_;rintro e w' ⟨rfl,hb⟩;obtain ⟨hc,hf⟩:=v9 hb;have hz:=hb.size;simp only [tkV]))
    refine bodyPost_ret (by simp [results,Tryz.results144,go_sem,hc];rfl) rfl ⟨?_, ?_⟩
    all_goals go_light
    ·rfl
    ·exact ((((qb5 hb).setCell (by simp) _).setCell (by simp) _).setCell (by simp) _).setCell (by simp) _
def qe8 (l:List UInt8) (k:Nat):Nat:=k+qa4 spU (l.drop k)
def qd3 (l:List UInt8) (k:Nat):Tk:=if qe8 l k<l.length then qe4 (l.drop (qe8 l k)) else j6 0
def qh8 (l:List UInt8) (k:Nat):Nat:=if qe8 l k<l.length then qe8 l k+qu2 (l.drop (qe8 l k)) else l.length
theorem vp7 (l:List UInt8) (k:Nat) (h:k≤l.length):qe8 l k≤l.length:=by
 have:=qx0 spU (l.drop k);rw [List.length_drop] at this;unfold qe8;omega
theorem mark_le (l:List UInt8) (h:0<l.length):qs7 l≤l.length:=by
 unfold qs7;split
 ·simp at h
 ·simp
 ·split<;>simp
theorem quotF_le:∀(n:Nat) (l:List UInt8),l.length≤n→∀r,qh3 l=some r→r.2≤l.length:=by
 intro n
 induction n with
 | zero=>
  intro l hl r h;have:l=[]:=List.eq_nil_of_length_eq_zero (by omega)
  subst this;simp [qh3] at h
 | succ n ih=>
  intro l hl r h
  match l,hl,h with
  | [],_,h=>simp [qh3] at h
  | [c],_,h=>
   simp only [qh3] at h
   split at h
   ·simp at h;subst h;simp
   ·simp at h
  | c::d::t,hl,h=>
   simp only [qh3] at h
   simp only [List.length_cons] at hl
   split at h
   ·split at h
    ·cases hq:qh3 t with
     | none=>rw [hq] at h;simp at h
     | some q=>
      rw [hq] at h;simp at h;subst h
      have:=ih t (by omega) q hq;simp;omega
    ·simp at h;subst h;simp
   ·cases hq:qh3 (d::t) with
    | none=>rw [hq] at h;simp at h
    | some q=>
     rw [hq] at h;simp at h;subst h
     have:=ih (d::t) (by simp;omega) q hq;simp at this ⊢;omega
theorem quotS_le (l:List UInt8) (h:0<l.length):qt1 l≤l.length:=by
 unfold qt1;split
 ·rename_i r hr
  have:=quotF_le _ (l.drop 1) (Nat.le_refl _) r hr
  rw [List.length_drop] at this;omega
 ·exact Nat.le_refl _
theorem vn7 (l:List UInt8) (h:0<l.length):qu2 l≤l.length:=by
 cases l with
 | nil=>simp at h
 | cons c t=>
  simp only [qu2]
  split
  ·exact qn9 _
  ·split
   ·exact qx0 _ _
   ·split
    ·exact quotS_le _ h
    ·exact mark_le _ h
theorem nextTo_le (l:List UInt8) (k:Nat):qh8 l k≤l.length:=by
 unfold qh8;split
 ·have:=vn7 (l.drop (qe8 l k)) (by rw [List.length_drop];omega)
  rw [List.length_drop] at this;omega
 ·exact Nat.le_refl _
end
end Go.Proofs.YtfkcaldjphakpaaGreatDoor
