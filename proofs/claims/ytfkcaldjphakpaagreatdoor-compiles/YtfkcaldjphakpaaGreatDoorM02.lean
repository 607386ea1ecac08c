/- The contracts of lex.first, lex.Next and lex.IsName. -/
import Derived.Test.YtfkcaldjphakpaaGreatDoorM01
import Derived.Deep.RegionWith
set_option maxHeartbeats 4000000
namespace Go.Proofs.YtfkcaldjphakpaaGreatDoor
open Go.RowKit Go.Proofs.Tryz
def qd6(l:List UInt8):Tk:=match l with
 | []=>j7 1
 | c::_=>if qs3 c then qh4 l else if qh3 c then qp5 l else if c==39 then qf5 l else j7 (qn9 l)
def qq4(l:List UInt8):Nat:=match l with
 | []=>1
 | c::_=>if qs3 c then qa8 l else if qh3 c then qa3 qh3 l else if c==39 then qq7 l else qr3 l
theorem first_at(s:ByteArray)(h:0<s.size):
  qd6 s.data.toList=(if qs3 s[0] then qh4 s.data.toList else if qh3 s[0] then qp5 s.data.toList else if s[0]==39 then qf5 s.data.toList else j7 (qn9 s.data.toList)) /\
  qq4 s.data.toList=(if qs3 s[0] then qa8 s.data.toList else if qh3 s[0] then qa3 qh3 s.data.toList else if s[0]==39 then qq7 s.data.toList else qr3 s.data.toList):=by
 have e:=List.drop_eq_getElem_cons (l:=s.data.toList) (i:=0) (by rw[qa5];exact h);rw[List.drop_zero,qb2 s 0 h]at e;constructor
 ·conv=>lhs;rw[e]
  conv=>rhs;rw[e]
  rfl
 ·conv=>lhs;rw[e]
  conv=>rhs;rw[e]
  rfl
theorem first_any(s:ByteArray)(h0:0<s.size)(hs:s.size<=140737488355328)(w:World)(hE:ErrOk w):
  Calls prog 144 #[.string s] w λe w'=>e=.returned (.tuple #[tkV (qd6 s.data.toList) 0,.int .i64 (qq4 s.data.toList)])/\Below w.heap.size w w':=by
 obtain⟨h1,h2⟩:=first_at s h0;have hm:s.size<=maxLen:=by unfold maxLen;omega
 have HE:Hid (∀o,ErrOk (w.alloc o)):=j3 λo=>hE.alloc o
 clear hE
 cases hb:qs3 s[0] with
 | true=>
  rw[hb,if_pos rfl]at h1 h2;rw[h1,h2];have Hb:=j3 hb;clear hb h1 h2;go_enter func144,ntmps144
  go_wp2_with(first|(go_at_call 190;refine(qg2 _ _).mono ?_;rintro e w'⟨rfl,rfl⟩;rw[show vg6 (s[0].toNat:Int)=true from q9 Hb])|(go_at_call 191;refine(word_any _ hs _).mono ?_;rintro e w'⟨rfl,hb⟩;obtain⟨hc,hf⟩:=qb0 hb;have hz:=hb.size;simp only[tkV]))
  refine bodyPost_ret (by simp[results,results144,go_sem,hc];rfl) rfl ⟨?_, ?_⟩
  all_goals go_light
  ·rfl
  ·exact((((qc8 hb).setCell (by simp) _).setCell (by simp) _).setCell (by simp) _).setCell (by simp) _
 | false=>
  rw[hb,if_neg (by simp)]at h1 h2;have Hb:=j3 hb;clear hb
  cases hd:qh3 s[0] with
  | true=>
   rw[hd,if_pos rfl]at h1 h2;rw[h1,h2];have Hd:=j3 hd;clear hd h1 h2;go_enter func144,ntmps144
   go_wp2_with(first|(go_at_call 190;refine(qg2 _ _).mono ?_;rintro e w'⟨rfl,rfl⟩;rw[show vg6 (s[0].toNat:Int)=false from q9 Hb])|(go_at_call 192;refine(qj9 _ _).mono ?_;rintro e w'⟨rfl,rfl⟩;rw[show ve3 (s[0].toNat:Int)=true from q9 Hd])|(go_at_call 193;refine(jw8 _ h0 hs (q9 Hd) _ (q9 HE _)).mono ?_;rintro e w'⟨rfl,hb⟩;obtain⟨hc,hf⟩:=qb0 hb;have hz:=hb.size;simp only[tkV]))
   refine bodyPost_ret (by simp[results,results144,go_sem,hc];rfl) rfl ⟨?_, ?_⟩
   all_goals go_light
   ·rfl
   ·exact((((qc8 hb).setCell (by simp) _).setCell (by simp) _).setCell (by simp) _).setCell (by simp) _
  | false=>
   rw[hd,if_neg (by simp)]at h1 h2;have Hd:=j3 hd;clear hd
   cases hq:(s[0]==39) with
   | true=>
    rw[hq,if_pos rfl]at h1 h2;rw[h1,h2];have vI:((s[0].toNat:Int)==39)=true:=by rw[u8_39];exact hq
    clear hq h1 h2;go_enter func144,ntmps144
    go_wp2_with(first|(go_at_call 190;refine(qg2 _ _).mono ?_;rintro e w'⟨rfl,rfl⟩;rw[show vg6 (s[0].toNat:Int)=false from q9 Hb])|(go_at_call 192;refine(qj9 _ _).mono ?_;rintro e w'⟨rfl,rfl⟩;rw[show ve3 (s[0].toNat:Int)=false from q9 Hd])|(go_at_call 194;refine(jx4 _ h0 hs _).mono ?_;rintro e w'⟨rfl,hb⟩;obtain⟨hc,hf⟩:=qb0 hb;have hz:=hb.size;simp only[tkV]))
    refine bodyPost_ret (by simp[results,results144,go_sem,hc];rfl) rfl ⟨?_, ?_⟩
    all_goals go_light
    ·rfl
    ·exact((((qc8 hb).setCell (by simp) _).setCell (by simp) _).setCell (by simp) _).setCell (by simp) _
   | false=>
    rw[hq,if_neg (by simp)]at h1 h2;rw[h1,h2];have vI:((s[0].toNat:Int)==39)=false:=by rw[u8_39];exact hq
    clear hq h1 h2;go_enter func144,ntmps144
    go_wp2_with(first|(go_at_call 190;refine(qg2 _ _).mono ?_;rintro e w'⟨rfl,rfl⟩;rw[show vg6 (s[0].toNat:Int)=false from q9 Hb])|(go_at_call 192;refine(qj9 _ _).mono ?_;rintro e w'⟨rfl,rfl⟩;rw[show ve3 (s[0].toNat:Int)=false from q9 Hd])|(go_at_call 195;refine(mark_any _ h0 hm _).mono ?_;rintro e w'⟨rfl,hb⟩;obtain⟨hc,hf⟩:=qb0 hb;have hz:=hb.size;simp only[tkV]))
    refine bodyPost_ret (by simp[results,results144,go_sem,hc];rfl) rfl ⟨?_, ?_⟩
    all_goals go_light
    ·rfl
    ·exact((((qc8 hb).setCell (by simp) _).setCell (by simp) _).setCell (by simp) _).setCell (by simp) _
def qc2(l:List UInt8)(k:Nat):Nat:=k+qa3 spU (l.drop k)
def qc0(l:List UInt8)(k:Nat):Tk:=if qc2 l k<l.length then qd6 (l.drop (qc2 l k)) else j7 0
def qd5(l:List UInt8)(k:Nat):Nat:=if qc2 l k<l.length then qc2 l k+qq4 (l.drop (qc2 l k)) else l.length
theorem jd1(l:List UInt8)(k:Nat)(h:k<=l.length):qc2 l k<=l.length:=by
 have:=qx6 spU (l.drop k);rw[List.length_drop]at this;unfold qc2;omega
theorem mark_le(l:List UInt8)(h:0<l.length):qr3 l<=l.length:=by
 unfold qr3;split
 ·simp at h
 ·simp
 ·split<;>simp
theorem quotF_le:∀(n:Nat) (l:List UInt8),l.length<=n->∀r,qe2 l=some r->r.2<=l.length:=by
 intro n
 induction n with
 | zero=>
  intro l hl r h;have:l=[]:=List.eq_nil_of_length_eq_zero (by omega);subst this;simp[qe2]at h
 | succ n ih=>
  intro l hl r h
  match l,hl,h with
  | [],_,h=>simp[qe2]at h
  | [c],_,h=>
   simp only[qe2]at h
   split at h
   ·simp at h;subst h;simp
   ·simp at h
  | c::d::t,hl,h=>
   simp only[qe2]at h;simp only[List.length_cons]at hl
   split at h
   ·split at h
    ·cases hq:qe2 t with
     | none=>rw[hq]at h;simp at h
     | some q=>
      rw[hq]at h;simp at h;subst h;have:=ih t (by omega) q hq;simp;omega
    ·simp at h;subst h;simp
   ·cases hq:qe2 (d::t) with
    | none=>rw[hq]at h;simp at h
    | some q=>
     rw[hq]at h;simp at h;subst h;have:=ih (d::t) (by simp;omega) q hq;simp at this ⊢;omega
theorem quotS_le(l:List UInt8)(h:0<l.length):qq7 l<=l.length:=by
 unfold qq7;split
 ·rename_i r hr
  have:=quotF_le _ (l.drop 1) (Nat.le_refl _) r hr;rw[List.length_drop]at this;omega
 ·exact Nat.le_refl _
theorem jb8(l:List UInt8)(h:0<l.length):qq4 l<=l.length:=by
 cases l with
 | nil=>simp at h
 | cons c t=>
  simp only[qq4]
  split
  ·exact qr1 _
  ·split
   ·exact qx6 _ _
   ·split
    ·exact quotS_le _ h
    ·exact mark_le _ h
theorem vn0(l:List UInt8)(k:Nat):qd5 l k<=l.length:=by
 unfold qd5;split
 ·have:=jb8 (l.drop (qc2 l k)) (by rw[List.length_drop];omega)
  rw[List.length_drop]at this;omega
 ·exact Nat.le_refl _
theorem jt1{t:Tk}{p p' z z':Int}(hp:p=p')(hz:z=z'):
  Ending.returned (.tuple #[.agg #[.int .i64 t.kind,.int .i64 p,.int .i64 t.num,.string (BS t.str)],.int .i64 z])=.returned (.tuple #[tkV t p',.int .i64 z']):=by
 rw[hp,hz];rfl
theorem next_any(s:ByteArray)(hs:s.size<=140737488355328)(f:Nat)(hf:f<=s.size)(w:World)(hE:ErrOk w):
  Calls prog 100 #[.string s,.int .i64 f] w λe w'=>e=.returned (.tuple #[tkV (qc0 s.data.toList f) (qc2 s.data.toList f),.int .i64 (qd5 s.data.toList f)])/\Below w.heap.size w w':=by
 have hl:=qa5 s;have N8:=jd1 s.data.toList f (by omega);have HE:Hid (∀o,ErrOk (w.alloc o)):=j3 λo=>hE.alloc o
 clear hE;obtain⟨A,hA⟩:∃a,qc2 s.data.toList f=a:=⟨_,rfl⟩;have hT:qc0 s.data.toList f=if A<s.data.toList.length then qd6 (s.data.toList.drop A) else j7 0:=by rw[←hA];rfl
 have hZ:qd5 s.data.toList f=if A<s.data.toList.length then A+qq4 (s.data.toList.drop A) else s.data.toList.length:=by rw[←hA];rfl
 obtain⟨T,G7⟩:∃t,qc0 s.data.toList f=t:=⟨_,rfl⟩;obtain⟨Z,zQ⟩:∃t,qd5 s.data.toList f=t:=⟨_,rfl⟩;rw[G7]at hT;rw[zQ]at hZ;rw[hA]at N8;rw[hA,G7,zQ];have HA:Hid (A=f+qa3 spU (s.data.toList.drop f)):=j3 (by rw[←hA];rfl);have HT:=j3 hT;have HZ:=j3 hZ;clear hT hZ G7 zQ hA;go_enter func100,ntmps100
 go_wp2_with fail
 go_loop [6] (λi=>∃k:Nat,f<=k/\k<=s.size/\i=.int .i64 k/\Hid (A=qa3 spU (s.data.toList.drop k)+k)) (λi=>s.size - (intOf i).toNat)
 case atStart=>exact⟨f,Nat.le_refl _,hf,rfl,j3 (by rw[Nat.add_comm];exact q9 HA)⟩
 case round=>
  obtain⟨k,A0,hk,rfl,hr⟩:=hrel
  have more:∀A1:k<s.size,spU s[k]=true->Hid (A=qa3 spU (s.data.toList.drop (k+1))+(k+1)):=λA1 hg=>j3 (by
   have:=qe9 spU s.data.toList k (by omega) hg;rw[q9 hr,this];omega)
  have done1:∀A1:k<s.size,spU s[k]=false->A=k:=λA1 hg=>by
   have:=qf9 spU s.data.toList k (by omega) hg;rw[q9 hr,this];omega
  have done2:¬k<s.size->A=k:=λA1=>by
   have:=qh0 spU s.data.toList k (by omega);rw[q9 hr,this];omega
  clear hr
  by_cases A1:k<s.size
  ·cases hg:spU s[k] with
   | true=>
    have HR:=more A1 hg;have Hg:=j3 hg;clear more done1 done2 hg
    go_wp2_with(go_at_call 143;refine(vm2 _ _).mono ?_;rintro e w'⟨rfl,rfl⟩;rw[show spB (s[k].toNat:Int)=true from q9 Hg])
    go_round
    case rel=>exact⟨k+1,by omega,by omega,by go_num,HR⟩
    case measure=>simp[intOf];omega
   | false=>
    have hA:=done1 A1 hg;have Hg:=j3 hg;clear more done1 done2 hg;subst hA;rw[if_pos (by omega)]at HT HZ;have hx:(s.extract A s.size).data.toList=s.data.toList.drop A:=Lib.extract_to_end s A;have F6:=jb8 (s.data.toList.drop A) (by rw[List.length_drop];omega);rw[List.length_drop,hl]at F6;have HX:=j3 hx;clear hx
    go_wp2_with(first|(go_at_call 143;refine(vm2 _ _).mono ?_;rintro e w'⟨rfl,rfl⟩;rw[show spB (s[A].toNat:Int)=false from q9 Hg])|(go_at_call 144;refine(first_any _ (by simp;omega) (by simp;omega) _ (q9 HE _)).mono ?_;rintro e w'⟨rfl,hb⟩;obtain⟨hc,MM⟩:=qb0 hb;have hz:w.heap.size<w'.heap.size:=(by have:=hb.size;simp at this;omega);rw[q9 HX];simp only[tkV]))
    refine bodyPost_ret (by simp[results,results100,go_sem,hc,hz];rfl) rfl ⟨?_, ?_⟩
    all_goals go_light
    ·rw[q9 HT,q9 HZ];exact jt1 rfl (by omega)
    ·exact(((((qc8 hb).setCell (by simp) _).setCell (by simp) _).setCell (by simp) _).setCell (by simp) _).alloc (by simp;omega) _
  ·have hA:=done2 A1
   clear more done1 done2;subst hA;rw[if_neg (by omega)]at HT HZ
   go_wp2_with fail
   refine bodyPost_ret (by simp[results,results100,go_sem];rfl) rfl ⟨?_, ?_⟩
   all_goals go_light
   ·rw[q9 HT,q9 HZ];exact jt1 (t:=j7 0) (by omega) (by omega)
   ·exact(Below.refl _ _).alloc (Nat.le_refl _) _
def vw0(l:List UInt8):Bool:=decide (0<qa8 l)&&decide (qa8 l=l.length)&&(vb0 l==2)
structure St where
 tk:Tk
 place:Nat
 after:Nat
 op:Nat
structure RdAt(w:World)(rb:Nat)(s:ByteArray)(st:St):Prop where
 c0:w.cell? ⟨rb,0,none⟩=some (.string s)
 c1:w.cell? ⟨rb,1,none⟩=some (.int .i64 st.tk.kind)
 c2:w.cell? ⟨rb,2,none⟩=some (.int .i64 st.place)
 c3:w.cell? ⟨rb,3,none⟩=some (.int .i64 st.tk.num)
 c4:w.cell? ⟨rb,4,none⟩=some (.string (BS st.tk.str))
 c5:w.cell? ⟨rb,5,none⟩=some (.int .i64 st.after)
 c6:w.cell? ⟨rb,6,none⟩=some (.int .i64 st.op)
 fz:∀j,w.frozen? ⟨rb,j,none⟩=false
structure Kept(rb:Nat)(w w':World):Prop where
 os:w'.os=w.os
 tape:w'.tape=w.tape
 output:w'.output=w.output
 size:w.heap.size<=w'.heap.size
 block:∀k,k<w.heap.size->k≠rb->w'.heap[k]?=w.heap[k]?
theorem Kept.refl(rb:Nat)(w:World):Kept rb w w:=⟨rfl,rfl,rfl,Nat.le_refl _,λ_ _ _=>rfl⟩
theorem Kept.trans{rb:Nat}{a b c:World}(h:Kept rb a b)(k:Kept rb b c):Kept rb a c:=
 ⟨k.os.trans h.os,k.tape.trans h.tape,k.output.trans h.output,Nat.le_trans h.size k.size,λi hi hn=>(k.block i (Nat.lt_of_lt_of_le hi h.size) hn).trans (h.block i hi hn)⟩
theorem Kept.of_below{rb:Nat}{w w':World}(h:Below w.heap.size w w'):Kept rb w w':=⟨h.os,h.tape,h.output,h.size,λk hk _=>h.block k hk⟩
theorem Kept.drew{rb:Nat}{a w:World}(h:Kept rb a w):Kept rb a w.drew:=⟨h.os,h.tape,h.output,h.size,h.block⟩
theorem Kept.setCell{rb:Nat}{a w:World}(h:Kept rb a w)(j:Nat)(u:Value):Kept rb a (w.setCell ⟨rb,j,none⟩ u):=by
 have hb:=(Below.refl 0 w).setCell (p:=⟨rb,j,none⟩) (Nat.zero_le _) u;refine⟨hb.os.trans h.os,hb.tape.trans h.tape,hb.output.trans h.output,Nat.le_trans h.size hb.size,λk hk hn=>?_⟩;rw[Below.heap_setCell w ⟨rb,j,none⟩ u k hn];exact h.block k hk hn
theorem Kept.alloc{rb:Nat}{a w:World}(h:Kept rb a w)(o:Obj):Kept rb a (w.alloc o):=
 h.trans (Kept.of_below ((Below.refl _ _).alloc (Nat.le_refl _) o))
theorem RdAt.below{w w':World}{rb:Nat}{s:ByteArray}{st:St}(h:RdAt w rb s st)(hb:Below w.heap.size w w')(A1:rb<w.heap.size):RdAt w' rb s st:=
 ⟨(hb.cell A1).trans h.c0,(hb.cell A1).trans h.c1,(hb.cell A1).trans h.c2,(hb.cell A1).trans h.c3,(hb.cell A1).trans h.c4,(hb.cell A1).trans h.c5,(hb.cell A1).trans h.c6,λj=>(hb.frozen A1).trans (h.fz j)⟩
theorem ErrOk.kept{rb:Nat}{w w':World}(h:ErrOk w)(k:Kept rb w w')(g9:3<rb):ErrOk w':=by
 obtain⟨h1,ev,h2,h3⟩:=h;refine⟨Nat.lt_of_lt_of_le h1 k.size,ev, ?_,h3⟩;rw[World.cell?_of_block (w:=w) (w':=w') (k.block _ h1 (by show 3≠rb;omega))];exact h2
def j4(s:ByteArray)(st:St):St:=⟨qc0 s.data.toList st.after,qc2 s.data.toList st.after,qd5 s.data.toList st.after,st.op⟩
theorem qm3(rb:Nat)(s:ByteArray)(st:St)(w:World)(hs:s.size<=140737488355328)(ha:st.after<=s.size)(hr:RdAt w rb s st)(A1:rb<w.heap.size)(hE:ErrOk w):
  Calls prog 54 #[.pointer (some ⟨rb,0,none⟩)] w λe w'=>e=.returned (.tuple #[])/\RdAt w' rb s (j4 s st)/\Kept rb w w':=by
 have HR:=j3 hr;obtain⟨c0,c1,c2,c3,c4,c5,c6,fz⟩:=hr;go_enter func54,ntmps54
 go_wp2_with fail
 go_region_with(go_at_call 100;refine(next_any s hs st.after ha _ (by exact hE)).mono ?_;rintro e w1⟨rfl,A7⟩;have B9:Below w.heap.size w w1:=((Below.refl w.heap.size w).drew).trans A7;clear A7;obtain⟨d0,d1,d2,d3,d4,d5,d6,dz⟩:=(q9 HR).below B9 A1;simp only[tkV])
 all_goals(go_wp2_with fail)
 all_goals go_end0
 all_goals refine⟨rfl,⟨?_, ?_, ?_, ?_, ?_, ?_, ?_, ?_⟩,(((((Kept.of_below B9).setCell 1 _).setCell 2 _).setCell 3 _).setCell 4 _).setCell 5 _⟩
 all_goals first|(simp[go_sem,j4,d0,d1,d2,d3,d4,d5,d6];done)|(intro j;simp[go_sem,dz];done)
structure V where
 kind:Int
 num:Int
 str:List UInt8
 deriving DecidableEq
def nV:V:=⟨0,0,[]⟩
def tV(s:List UInt8):V:=⟨3,0,s⟩
theorem vr1(w:World)(o o':Obj):Below w.heap.size w ((w.alloc o).alloc o'):=((Below.refl _ _).alloc (Nat.le_refl _) o).alloc (by simp) o'
theorem below3(w:World)(o o' o'':Obj):Below w.heap.size w (((w.alloc o).alloc o').alloc o''):=(vr1 w o o').alloc (by simp;omega) o''
theorem j6{w W w':World}(h1:Below w.heap.size w W)(h2:Below W.heap.size W w'):Below w.heap.size w w':=h1.trans (h2.mono h1.size)
end Go.Proofs.YtfkcaldjphakpaaGreatDoor
