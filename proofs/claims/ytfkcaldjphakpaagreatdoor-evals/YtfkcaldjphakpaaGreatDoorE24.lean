/- Patterns: plain; what cut is to answer. cut and Valid. Contracts of package value: sums, differences, products, quotients. Contracts of package value: And. Contracts of package value: products and quotients. Contracts of package value: Multiply, Divide. Contracts of package events: has, Find. Contracts of package events: validName, validValue. The document's answer: bools, NOT, equations, a name's value. The document's answer: products. The document's answer: two values with a sign between. -/
import Derived.Test.YtfkcaldjphakpaaGreatDoorWVal1
import Derived.Deep.QuietTactic
import Derived.BigQuiet
import Derived.Deep.RegionWith
import Derived.Deep.DeepCutAuto
import Derived.Test.YtfkcaldjphakpaaGreatDoorE07
set_option maxHeartbeats 4000000
set_option maxRecDepth 100000
namespace Go.Proofs.YtfkcaldjphakpaaGreatDoor
open Go.RowKit
section
structure Pc where
 kind:Int
 c:UInt8
def pcV (p:Pc):Value:=.agg #[.int .i64 p.kind,.int .u8 p.c.toNat]
def qf4 (c:UInt8):Pc:=if ((c.toNat:Int)==37)=true then ⟨2,0⟩ else if ((c.toNat:Int)==95)=true then ⟨1,0⟩ else ⟨0,c⟩
theorem vq0 (c:UInt8) (w:World) :
  Calls Tryz.prog 250 #[.int .u8 c.toNat] w fun e w'=>e=.returned (pcV (qf4 c))∧Below w.heap.size w w':=by
 unfold qf4
 cases h1:((c.toNat:Int)==37)
 ·cases h2:((c.toNat:Int)==95)
  ·simp only [Bool.false_eq_true,if_false]
   go_enter Tryz.func250,Tryz.ntmps250
   go_wp2_with fail
   refine bodyPost_ret (by simp [results,Tryz.results250,go_sem];rfl) rfl ⟨rfl,(Below.refl _ _).alloc (Nat.le_refl _) _⟩
  ·simp only [Bool.false_eq_true,if_false,if_true]
   go_enter Tryz.func250,Tryz.ntmps250
   go_wp2_with fail
   refine bodyPost_ret (by simp [results,Tryz.results250,go_sem];rfl) rfl ⟨rfl,(Below.refl _ _).alloc (Nat.le_refl _) _⟩
 ·simp only [if_true]
  go_enter Tryz.func250,Tryz.ntmps250
  go_wp2_with fail
  refine bodyPost_ret (by simp [results,Tryz.results250,go_sem];rfl) rfl ⟨rfl,(Below.refl _ _).alloc (Nat.le_refl _) _⟩
def qk3 (e:List UInt8):List UInt8→Option (List Pc)
 | []=>some []
 | [c]=>if e.head?=some c then none else some [qf4 c]
 | c::d::t=>if e.head?=some c then (qk3 e t).map (⟨0,d⟩::·) else (qk3 e (d::t)).map (qf4 c::·)
theorem qy0 {e p:List UInt8} {k:Nat} {c:UInt8} (h:p[k]?=some c) (hn:¬e.head?=some c):qk3 e (p.drop k)=(qk3 e (p.drop (k+1))).map (qf4 c::·):=by
 obtain ⟨hk,he⟩:=List.getElem?_eq_some_iff.1 h
 rw [List.drop_eq_getElem_cons hk,he]
 cases hd:p.drop (k+1) with
 | nil=>show (if e.head?=some c then none else some [qf4 c])=_;rw [if_neg hn];rfl
 | cons d t=>rw [qk3,if_neg hn]
theorem vg4 {e p:List UInt8} {k:Nat} {c d:UInt8} (h:p[k]?=some c) (hn:e.head?=some c) (h2:p[k+1]?=some d):qk3 e (p.drop k)=(qk3 e (p.drop (k+2))).map (⟨0,d⟩::·):=by
 obtain ⟨hk,he⟩:=List.getElem?_eq_some_iff.1 h
 obtain ⟨hk2,he2⟩:=List.getElem?_eq_some_iff.1 h2
 rw [List.drop_eq_getElem_cons hk,he,List.drop_eq_getElem_cons hk2,he2,qk3,if_pos hn]
theorem vb1 {e p:List UInt8} {k:Nat} {c:UInt8} (h:p[k]?=some c) (hn:e.head?=some c) (h2:p.length≤k+1):qk3 e (p.drop k)=none:=by
 obtain ⟨hk,he⟩:=List.getElem?_eq_some_iff.1 h
 rw [List.drop_eq_getElem_cons hk,he,List.drop_of_length_le h2,qk3,if_pos hn]
theorem vg3 {e p:List UInt8} {k:Nat} (h:p.length≤k):qk3 e (p.drop k)=some []:=by
 rw [List.drop_of_length_le h,qk3]
def qm8 (ps:List Pc):List Value:=ps.flatMap fun p=>[.int .i64 p.kind,.int .u8 p.c.toNat]
theorem vp9 (ps:List Pc) (p:Pc):qm8 (ps++[p])=qm8 ps++[.int .i64 p.kind,.int .u8 p.c.toNat]:=by simp [qm8]
end
section
theorem jd4:(Tryz.prog.info? 262).map (fun i=>(i.zero,i.size,i.bytes))=some (some (.agg #[.int .i64 0,.int .u8 0]),2,16):=by kernel_rfl
def CutEnds (w:World) (r:Option (List Pc)) (e:Ending) (w':World):Prop:=
 Below w.heap.size w w'∧match r with
 | none=>e=.returned (.tuple #[.slice none 0 0,.bool false])
 | some ps=>∃v,e=.returned (.tuple #[v,.bool true])∧w'.ownsRow w.heap.size 262 2 v ps.length (qm8 ps)
theorem qn0 {base e size n B:Nat} {w w':World} {v:Value} {xs:List Value} (h:w.ownsRow base e size v n xs) (hb:Below B w w') (hB:w.heap.size≤B):w'.ownsRow base e size v n xs:=by
 refine ⟨h.1, ?_⟩
 rcases h.2 with hn|⟨g,cap,cur,rfl,hbg,hgg,rest⟩
 ·exact .inl hn
 ·refine .inr ⟨g,cap,cur,rfl,hbg, ?_,rest⟩
  rw [hb.block g (by have:=(Array.getElem?_eq_some_iff.1 hgg).1;omega)]
  exact hgg
theorem vw2 {base e size n:Nat} {w:World} {v:Value} {xs:List Value} (h:w.ownsRow base e size v n xs):∀k,v.ownBlock=some k→base≤k:=fun k hk=>(h.lt k hk).1
theorem Below.grown {B:Nat} {a w w':World} {row:Option Nat} (h:Below B a w) (hg:w.grownBy w' row) (hB:B≤w.heap.size) (hrow:∀k,row=some k→B≤k):Below B a w':=
 ⟨hg.os.trans h.os,hg.tape.trans h.tape,hg.output.trans h.output,Nat.le_trans h.size hg.size,fun k hk=>(hg.block k (by omega) (fun e=>by have:=hrow k e.symm;omega)).trans (h.block k hk)⟩
theorem vg6 {w wr w1 w2:World} {e:Nat} {v v':Value} {ps:List Pc} {q:Pc} {o:Obj} (hown':w2.ownsRow w.heap.size e 2 v' (ps.length+1) (qm8 ps++[.int .i64 q.kind,.int .u8 q.c.toNat])) (hgrow:(w1.alloc o).grownBy w2 v.ownBlock)
  (hown1:w1.ownsRow w.heap.size e 2 v ps.length (qm8 ps)) (hbel:Below w.heap.size w wr) (hb1:Below wr.heap.size wr w1) :
  w2.ownsRow w.heap.size e 2 v' (ps++[q]).length (qm8 (ps++[q]))∧Below w.heap.size w w2:=by
 have h1:=hbel.size
 have h2:=hb1.size
 refine ⟨by rw [vp9,List.length_append];exact hown', ?_⟩
 exact Below.grown ((v8 hbel hb1).alloc (by omega) o) hgrow (by simp;omega) (vw2 hown1)
theorem vt7 (p e:ByteArray) (hp:p.size≤200) (w:World) :
  Calls Tryz.prog 203 #[.string p,.string e] w (CutEnds w (qk3 e.data.toList p.data.toList)):=by
 obtain ⟨R,hR⟩:∃r,qk3 e.data.toList p.data.toList=r:=⟨_,rfl⟩
 rw [hR]
 have HR:=v7 hR
 clear hR
 obtain ⟨i0,hi,hz0,hz1',hz2'⟩:=info_parts jd4
 go_enter Tryz.func203,Tryz.ntmps203
 go_wp2_with fail
 go_loopw [6,7] (fun v i wr=>∃(k:Nat) (ps:List Pc),k≤p.size∧ps.length≤k∧i=.int .i64 k∧Hid (R=(qk3 e.data.toList (p.data.toList.drop k)).map (ps++·))∧wr.ownsRow w.heap.size 262 2 v ps.length (qm8 ps)∧Below w.heap.size w wr) (fun _ i _=>p.size - (intOf i).toNat)
 case atStart=>exact ⟨0,[],Nat.zero_le _,Nat.zero_le _,rfl,v7 (by rw [List.drop_zero,q9 HR];cases R<;>rfl),World.ownsRow_nil _ _ _ _,Below.refl _ _⟩
 case round=>
  obtain ⟨k,ps,hk,hpk,rfl,hh,hown,hbel⟩:=hrel
  have hbz:=hbel.size
  by_cases hlt:k<p.size
  ·have hpe:p.data.toList[k]?=some p[k]:=by rw [List.getElem?_eq_getElem (by rw [j4];exact hlt),j9 p k hlt]
   have plainCase:¬e.data.toList.head?=some p[k]→Hid (R=(qk3 e.data.toList (p.data.toList.drop (k+1))).map ((ps++[qf4 p[k]])++·)):=fun hn=>v7 (by rw [q9 hh,qy0 hpe hn];cases qk3 e.data.toList (p.data.toList.drop (k+1))<;>simp)
   by_cases he:0<e.size
   ·have hne:=qx3 he
    have hhd:e.data.toList.head?=some e[0]:=by
     have:=List.getElem?_eq_getElem (l:=e.data.toList) (i:=0) (by rw [j4];exact he)
     rw [j9 e 0 he] at this
     rw [List.head?_eq_getElem?];exact this
    cases hx:(p[k]==e[0]) with
    | false=>
     have HT:=plainCase (by rw [hhd];intro h;injection h with h;rw [h] at hx;simp at hx)
     have hx':((p[k].toNat:Int)==(e[0].toNat:Int))=false:=by rw [qr0];exact hx
     clear plainCase hh hpe hhd hx
     go_wp2_with fail
     go_quiet (fail)
     go_wp2_with (first|(go_at_call 250;refine (vq0 p[k] _).mono ?_;rintro en w1 ⟨rfl,hb1'⟩;have hb1:Below wr.heap.size wr w1:=(below_drewN (Below.refl _ wr) _).trans hb1';clear hb1';have hz1:=hb1.size;have hown1:=qn0 hown hb1 (Nat.le_refl _);simp only [pcV])|(at_builtin;refine wpList_append_own _ rfl _ _ 256 rfl w.heap.size 262 i0 (.agg #[.int .i64 0,.int .u8 0]) 2 16 Tryz.underlying256 hi hz0 hz1' hz2' rfl (by decide) _ _ _ rfl (hown1.alloc _) ⟨w1.heap.size,0,none⟩ 1 1 [.int .i64 (qf4 p[k]).kind,.int .u8 (qf4 p[k]).c.toNat] rfl rfl ?c1 ?c2 ?c3 ?c4 ?c5 ?_))
     case c1=>
      intro j u hj
      match j,hj with
      | 0,hj=>simp at hj;subst hj;simp [Addr.add]
      | 1,hj=>simp at hj;subst hj;simp [Addr.add]
      | j+2,hj=>simp at hj
     case c2=>intro u hu;simp at hu;rcases hu with rfl|rfl<;>rfl
     case c3=>unfold maxLen;omega
     case c4=>omega
     case c5=>simp;omega
     ·intro v' w2 hown' hgrow _
      have R:=vg6 hown' hgrow hown1 hbel hb1
      clear hown' hgrow hown hown1
      go_wp2
      go_roundw
      case rel=>exact ⟨k+1,_,by omega,by simp;omega,by go_num,HT,R.1,R.2⟩
      case measure=>simp [intOf];omega
    | true=>
     have hxe:e.data.toList.head?=some p[k]:=by rw [hhd,beq_iff_eq.1 hx]
     have hx':((p[k].toNat:Int)==(e[0].toNat:Int))=true:=by rw [qr0];exact hx
     by_cases hl:k+1<p.size
     ·have hpe2:p.data.toList[k+1]?=some p[k+1]:=by rw [List.getElem?_eq_getElem (by rw [j4];exact hl),j9 p (k+1) hl]
      have HT:Hid (R=(qk3 e.data.toList (p.data.toList.drop (k+2))).map ((ps++[⟨0,p[k+1]⟩])++·)):=v7 (by rw [q9 hh,vg4 hpe hxe hpe2];cases qk3 e.data.toList (p.data.toList.drop (k+2))<;>simp)
      clear plainCase hh hpe hhd hx hpe2 hxe
      have hnl:(((k:Int)+1)==(p.size:Int))=false:=beq_eq_false_iff_ne.2 (by omega)
      go_wp2_with fail
      go_quiet (fail)
      have hown1:=qn0 hown (below_drewN (Below.refl _ wr) nq) (Nat.le_refl _)
      go_wp2_with (first|(at_builtin;refine wpList_append_own _ rfl _ _ 256 rfl w.heap.size 262 i0 (.agg #[.int .i64 0,.int .u8 0]) 2 16 Tryz.underlying256 hi hz0 hz1' hz2' rfl (by decide) _ _ _ rfl (hown1.alloc _) ⟨wr.heap.size,0,none⟩ 1 1 [.int .i64 0,.int .u8 p[k+1].toNat] rfl rfl ?c1 ?c2 ?c3 ?c4 ?c5 ?_))
      case c1=>
       intro j u hj
       match j,hj with
       | 0,hj=>simp at hj;subst hj;simp [Addr.add];exact (World.cell?_alloc_at (w:=wr.drewN nq) _ _ _ _ rfl).trans rfl
       | 1,hj=>simp at hj;subst hj;simp [Addr.add];exact (World.cell?_alloc_at (w:=wr.drewN nq) _ _ _ _ rfl).trans rfl
       | j+2,hj=>simp at hj
      case c2=>intro u hu;simp at hu;rcases hu with rfl|rfl<;>rfl
      case c3=>unfold maxLen;omega
      case c4=>omega
      case c5=>simp;omega
      ·intro v' w2 hown' hgrow _
       have R:=vg6 (q:=⟨0,p[k+1]⟩) hown' hgrow hown1 hbel (below_drewN (Below.refl _ wr) nq)
       clear hown' hgrow hown hown1
       go_wp2
       go_roundw
       case rel=>exact ⟨k+2,_,by omega,by simp;omega,by go_num,HT,R.1,R.2⟩
       case measure=>simp [intOf];omega
     ·have HT:Hid (R=none):=v7 (by rw [q9 hh,vb1 hpe hxe (by rw [j4];omega)];rfl)
      clear plainCase hh hpe hhd hx hxe
      have hnl:(((k:Int)+1)==(p.size:Int))=true:=beq_iff_eq.2 (by omega)
      go_wp2_with fail
      go_quiet (fail)
      go_wp2_with fail
      go_ret2
      rw [q9 HT]
      exact ⟨below_drewN hbel _,rfl⟩
   ·have hee:e=⟨#[]⟩:=by cases e with|mk d=>simp [ByteArray.size] at he;simp [he]
    subst hee
    have HT:=plainCase (by simp)
    clear plainCase hh hpe he
    go_wp2_with fail
    go_quiet (fail)
    go_wp2_with (first|(go_at_call 250;refine (vq0 p[k] _).mono ?_;rintro en w1 ⟨rfl,hb1'⟩;have hb1:Below wr.heap.size wr w1:=(below_drewN (Below.refl _ wr) _).trans hb1';clear hb1';have hz1:=hb1.size;have hown1:=qn0 hown hb1 (Nat.le_refl _);simp only [pcV])|(at_builtin;refine wpList_append_own _ rfl _ _ 256 rfl w.heap.size 262 i0 (.agg #[.int .i64 0,.int .u8 0]) 2 16 Tryz.underlying256 hi hz0 hz1' hz2' rfl (by decide) _ _ _ rfl (hown1.alloc _) ⟨w1.heap.size,0,none⟩ 1 1 [.int .i64 (qf4 p[k]).kind,.int .u8 (qf4 p[k]).c.toNat] rfl rfl ?c1 ?c2 ?c3 ?c4 ?c5 ?_))
    case c1=>
     intro j u hj
     match j,hj with
     | 0,hj=>simp at hj;subst hj;simp [Addr.add]
     | 1,hj=>simp at hj;subst hj;simp [Addr.add]
     | j+2,hj=>simp at hj
    case c2=>intro u hu;simp at hu;rcases hu with rfl|rfl<;>rfl
    case c3=>unfold maxLen;omega
    case c4=>omega
    case c5=>simp;omega
    ·intro v' w2 hown' hgrow _
     have R:=vg6 hown' hgrow hown1 hbel hb1
     clear hown' hgrow hown hown1
     go_wp2
     go_roundw
     case rel=>exact ⟨k+1,_,by omega,by simp;omega,by go_num,HT,R.1,R.2⟩
     case measure=>simp [intOf];omega
  ·have HT:Hid (R=some ps):=v7 (by rw [q9 hh,vg3 (by rw [j4];omega)];simp)
   clear hh
   go_wp2_with fail
   go_ret2
   rw [q9 HT]
   exact ⟨hbel,_,rfl,hown⟩
theorem valid_any (p e:ByteArray) (hp:p.size≤200) (w:World) :
  Calls Tryz.prog 332 #[.string p,.string e] w fun en w'=>en=.returned (.bool (qk3 e.data.toList p.data.toList).isSome)∧Below w.heap.size w w':=by
 cases hc:qk3 e.data.toList p.data.toList with
 | none=>
  have HC:=v7 hc
  clear hc
  go_enter Tryz.func332,Tryz.ntmps332
  go_wp2_with (go_at_call 203;refine (vt7 p e hp _).mono ?_;rintro en w1 ⟨hb1,h1⟩;rw [q9 HC] at h1;subst h1)
  go_ret
  exact ⟨rfl,hb1⟩
 | some ps=>
  have HC:=v7 hc
  clear hc
  go_enter Tryz.func332,Tryz.ntmps332
  go_wp2_with (go_at_call 203;refine (vt7 p e hp _).mono ?_;rintro en w1 ⟨hb1,h1⟩;rw [q9 HC] at h1;obtain ⟨v,rfl,hown⟩:=h1;clear hown)
  go_ret
  exact ⟨rfl,hb1⟩
end
section
def qm7 (n:Int):Bool:=decide (-9223372036854775808≤n)&&decide (n≤9223372036854775807)
def Rng (n:Int):Prop:=-9223372036854775808≤n∧n≤9223372036854775807
def vk4 (x y:V):V:=if qg4 x y&&qm7 (x.num+y.num) then iV (x.num+y.num) else nV
def vk6 (x y:V):V:=if qg4 x y&&qm7 (x.num - y.num) then iV (x.num - y.num) else nV
def je1 (x y:V):V:=if qg4 x y&&qm7 (x.num * y.num) then iV (x.num * y.num) else nV
def jc7 (x y:V):V:=if qg4 x y&&!(y.num==0)&&qm7 (x.num.tdiv y.num) then iV (x.num.tdiv y.num) else nV
theorem qi7 {n:Int} (h:qm7 n=true):wrap64 n=n:=by
 simp [qm7] at h;unfold wrap64;omega
theorem add_test {a b:Int} (ha:Rng a) (hb:Rng b):((decide (wrap64 (a+b)<a)) != (decide (b<0)))=!qm7 (a+b):=by
 unfold Rng at ha hb
 rw [Bool.eq_iff_iff]
 simp [qm7,wrap64]
 omega
theorem sub_test {a b:Int} (ha:Rng a) (hb:Rng b):((decide (a<wrap64 (a - b))) != (decide (b<0)))=!qm7 (a - b):=by
 unfold Rng at ha hb
 rw [Bool.eq_iff_iff]
 simp [qm7,wrap64]
 omega
theorem ja9 (x y:V) (hx:Rng x.num) (hy:Rng y.num) (w:World) :
  Calls Tryz.prog 159 #[vV x,vV y] w fun e w'=>e=.returned (vV (vk4 x y))∧Below w.heap.size w w':=by
 have ht:=add_test hx hy
 simp only [bne] at ht
 unfold vk4
 cases hk:qg4 x y with
 | true=>
  have HK:=v7 hk
  clear hk
  cases hf:qm7 (x.num+y.num) with
  | true=>
   rw [hf] at ht
   simp only [Bool.not_true] at ht
   have HW:=v7 (qi7 hf)
   clear hf
   simp only [Bool.and_self,if_true]
   conv=>arg 3;simp only [vV]
   go_enter Tryz.func159,Tryz.ntmps159
   go_wp2_with (first|(go_at_call 153;refine (qa6 x y _).mono ?_;rintro e w1 ⟨rfl,hb1⟩;rw [q9 HK];obtain ⟨hc1,hf1⟩:=v9 hb1;have hz1:w.heap.size+2<w1.heap.size:=(by have:=hb1.size;simp at this;omega))|(go_at_call 62;rw [q9 HW];refine (qp7 _ _).mono ?_;rintro e w2 ⟨rfl,hb2⟩;obtain ⟨hc2,hf2⟩:=v9 hb2;simp only [vV]))
   refine bodyPost_ret (by simp [results,Tryz.results159,go_sem,hc2,hc1,hz1]<;>rfl) rfl ⟨rfl, ?_⟩
   exact ((((v8 (v8 (x4 _ _ _ _) hb1) hb2).setCell (by simp;omega) _).setCell (by simp;omega) _).setCell (by simp;omega) _)
  | false=>
   rw [hf] at ht
   simp only [Bool.not_false] at ht
   clear hf
   simp only [Bool.and_false,Bool.false_eq_true,if_false]
   conv=>arg 3;simp only [vV]
   go_enter Tryz.func159,Tryz.ntmps159
   go_wp2_with (first|(go_at_call 153;refine (qa6 x y _).mono ?_;rintro e w1 ⟨rfl,hb1⟩;rw [q9 HK];obtain ⟨hc1,hf1⟩:=v9 hb1;have hz1:w.heap.size+2<w1.heap.size:=(by have:=hb1.size;simp at this;omega))|(go_at_call 152;refine (qd7 _).mono ?_;rintro e w2 ⟨rfl,hb2⟩;obtain ⟨hc2,hf2⟩:=v9 hb2;simp only [vV]))
   refine bodyPost_ret (by simp [results,Tryz.results159,go_sem,hc2,hc1,hz1]<;>rfl) rfl ⟨rfl, ?_⟩
   exact ((((v8 (v8 (x4 _ _ _ _) hb1) hb2).setCell (by simp;omega) _).setCell (by simp;omega) _).setCell (by simp;omega) _)
 | false=>
  have HK:=v7 hk
  clear hk ht
  simp only [Bool.false_and,Bool.false_eq_true,if_false]
  conv=>arg 3;simp only [vV]
  go_enter Tryz.func159,Tryz.ntmps159
  go_wp2_with (first|(go_at_call 153;refine (qa6 x y _).mono ?_;rintro e w1 ⟨rfl,hb1⟩;rw [q9 HK];obtain ⟨hc1,hf1⟩:=v9 hb1;have hz1:w.heap.size+2<w1.heap.size:=(by have:=hb1.size;simp at this;omega))|(go_at_call 152;refine (qd7 _).mono ?_;rintro e w2 ⟨rfl,hb2⟩;obtain ⟨hc2,hf2⟩:=v9 hb2;simp only [vV]))
  refine bodyPost_ret (by simp [results,Tryz.results159,go_sem,hc2,hc1,hz1]<;>rfl) rfl ⟨rfl, ?_⟩
  exact ((((v8 (v8 (x4 _ _ _ _) hb1) hb2).setCell (by simp;omega) _).setCell (by simp;omega) _).setCell (by simp;omega) _)
theorem qx4 (x y:V) (hx:Rng x.num) (hy:Rng y.num) (w:World) :
  Calls Tryz.prog 160 #[vV x,vV y] w fun e w'=>e=.returned (vV (vk6 x y))∧Below w.heap.size w w':=by
 have ht:=sub_test hx hy
 simp only [bne] at ht
 unfold vk6
 cases hk:qg4 x y with
 | true=>
  have HK:=v7 hk
  clear hk
  cases hf:qm7 (x.num - y.num) with
  | true=>
   rw [hf] at ht
   simp only [Bool.not_true] at ht
   have HW:=v7 (qi7 hf)
   clear hf
   simp only [Bool.and_self,if_true]
   conv=>arg 3;simp only [vV]
   go_enter Tryz.func160,Tryz.ntmps160
   go_wp2_with (first|(go_at_call 153;refine (qa6 x y _).mono ?_;rintro e w1 ⟨rfl,hb1⟩;rw [q9 HK];obtain ⟨hc1,hf1⟩:=v9 hb1;have hz1:w.heap.size+2<w1.heap.size:=(by have:=hb1.size;simp at this;omega))|(go_at_call 62;rw [q9 HW];refine (qp7 _ _).mono ?_;rintro e w2 ⟨rfl,hb2⟩;obtain ⟨hc2,hf2⟩:=v9 hb2;simp only [vV]))
   refine bodyPost_ret (by simp [results,Tryz.results160,go_sem,hc2,hc1,hz1]<;>rfl) rfl ⟨rfl, ?_⟩
   exact ((((v8 (v8 (x4 _ _ _ _) hb1) hb2).setCell (by simp;omega) _).setCell (by simp;omega) _).setCell (by simp;omega) _)
  | false=>
   rw [hf] at ht
   simp only [Bool.not_false] at ht
   clear hf
   simp only [Bool.and_false,Bool.false_eq_true,if_false]
   conv=>arg 3;simp only [vV]
   go_enter Tryz.func160,Tryz.ntmps160
   go_wp2_with (first|(go_at_call 153;refine (qa6 x y _).mono ?_;rintro e w1 ⟨rfl,hb1⟩;rw [q9 HK];obtain ⟨hc1,hf1⟩:=v9 hb1;have hz1:w.heap.size+2<w1.heap.size:=(by have:=hb1.size;simp at this;omega))|(go_at_call 152;refine (qd7 _).mono ?_;rintro e w2 ⟨rfl,hb2⟩;obtain ⟨hc2,hf2⟩:=v9 hb2;simp only [vV]))
   refine bodyPost_ret (by simp [results,Tryz.results160,go_sem,hc2,hc1,hz1]<;>rfl) rfl ⟨rfl, ?_⟩
   exact ((((v8 (v8 (x4 _ _ _ _) hb1) hb2).setCell (by simp;omega) _).setCell (by simp;omega) _).setCell (by simp;omega) _)
 | false=>
  have HK:=v7 hk
  clear hk ht
  simp only [Bool.false_and,Bool.false_eq_true,if_false]
  conv=>arg 3;simp only [vV]
  go_enter Tryz.func160,Tryz.ntmps160
  go_wp2_with (first|(go_at_call 153;refine (qa6 x y _).mono ?_;rintro e w1 ⟨rfl,hb1⟩;rw [q9 HK];obtain ⟨hc1,hf1⟩:=v9 hb1;have hz1:w.heap.size+2<w1.heap.size:=(by have:=hb1.size;simp at this;omega))|(go_at_call 152;refine (qd7 _).mono ?_;rintro e w2 ⟨rfl,hb2⟩;obtain ⟨hc2,hf2⟩:=v9 hb2;simp only [vV]))
  refine bodyPost_ret (by simp [results,Tryz.results160,go_sem,hc2,hc1,hz1]<;>rfl) rfl ⟨rfl, ?_⟩
  exact ((((v8 (v8 (x4 _ _ _ _) hb1) hb2).setCell (by simp;omega) _).setCell (by simp;omega) _).setCell (by simp;omega) _)
end
section
theorem qe3 {a w:World} (h:Below a.heap.size a w) (o:Obj):Below a.heap.size a (w.alloc o):=h.alloc h.size o
theorem qc7 (b:Bool) (w:World) :
  Calls Tryz.prog 64 #[.bool b] w fun e w'=>e=.returned (vV (bV b))∧w'=w.alloc (.cells #[.int .i64 (bV b).kind,.int .i64 (bV b).num,.string (BS (bV b).str)] 26):=by
 cases b
 all_goals
  go_enter Tryz.func64,Tryz.ntmps64
  go_wp2_with fail
  refine bodyPost_ret (by simp [results,Tryz.results64,go_sem];rfl) rfl ⟨rfl,rfl⟩
theorem qm0 (w:World) :
  Calls Tryz.prog 152 #[] w fun e w'=>e=.returned (vV nV)∧w'=w.alloc (.cells #[.int .i64 nV.kind,.int .i64 nV.num,.string (BS nV.str)] 26):=by
 go_enter Tryz.func152,Tryz.ntmps152
 go_wp2_with fail
 refine bodyPost_ret (by simp [results,Tryz.results152,go_sem];rfl) rfl ⟨rfl,rfl⟩
def jb6 (x y:V):V:=if decide (x=bV false)||decide (y=bV false) then bV false else if decide (x=bV true)&&decide (y=bV true) then bV true else nV
theorem jb0 (x y:V) (w:World) :
  Calls Tryz.prog 106 #[vV x,vV y] w fun e w'=>e=.returned (vV (jb6 x y))∧Below w.heap.size w w':=by
 have ex:=fun w=>qr3 x (bV false) w
 have ey:=fun w=>qr3 y (bV false) w
 have fx:=fun w=>qr3 x (bV true) w
 have fy:=fun w=>qr3 y (bV true) w
 simp only [vV] at ex ey fx fy
 unfold jb6
 generalize decide (x=bV false)=a at *
 generalize decide (y=bV false)=b at *
 generalize decide (x=bV true)=c at *
 generalize decide (y=bV true)=d at *
 cases a
 ·cases b
  ·cases c
   ·simp only [Bool.false_and,Bool.false_or,Bool.false_eq_true,if_false]
    conv=>arg 3;simp only [vV]
    go_enter Tryz.func106,Tryz.ntmps106
    go_wp2_with fail
    go_cut [5] (fun s5 wx=>s5=.bool false∧wx=((((((w.alloc (Obj.cells #[.int .i64 x.kind,.int .i64 x.num,.string (BS x.str)] 26)).alloc (Obj.cells #[.int .i64 y.kind,.int .i64 y.num,.string (BS y.str)] 26)).alloc (Obj.cells #[.int .i64 0,.int .i64 0,.string ⟨#[]⟩] 26)).alloc (Obj.cells #[.int .i64 (bV false).kind,.int .i64 (bV false).num,.string (BS (bV false).str)] 26)).alloc (Obj.cells #[.int .i64 (bV false).kind,.int .i64 (bV false).num,.string (BS (bV false).str)] 26))).drew)
    case first=>go_region_with (go_at_call 64;refine (qc7 _ _).mono ?_;rintro e w' ⟨rfl,rfl⟩;simp only [vV]);all_goals (go_wp2_with fail;go_meet;exact ⟨rfl,rfl⟩)
    case rest=>
     obtain ⟨rfl,rfl⟩:=hcut
     go_wp2_with fail
     go_cut [15] (fun s15 wx=>s15=.bool false∧wx=(((((((w.alloc (Obj.cells #[.int .i64 x.kind,.int .i64 x.num,.string (BS x.str)] 26)).alloc (Obj.cells #[.int .i64 y.kind,.int .i64 y.num,.string (BS y.str)] 26)).alloc (Obj.cells #[.int .i64 0,.int .i64 0,.string ⟨#[]⟩] 26)).alloc (Obj.cells #[.int .i64 (bV false).kind,.int .i64 (bV false).num,.string (BS (bV false).str)] 26)).alloc (Obj.cells #[.int .i64 (bV false).kind,.int .i64 (bV false).num,.string (BS (bV false).str)] 26)).alloc (Obj.cells #[.int .i64 (bV true).kind,.int .i64 (bV true).num,.string (BS (bV true).str)] 26))).drew.drew)
     case first=>go_region_with (go_at_call 64;refine (qc7 _ _).mono ?_;rintro e w' ⟨rfl,rfl⟩;simp only [vV]);all_goals (go_wp2_with fail;go_meet;exact ⟨rfl,rfl⟩)
     case rest=>
      obtain ⟨rfl,rfl⟩:=hcut
      go_wp2_with (first|(go_at_call 64;refine (qc7 _ _).mono ?_;rintro e w' ⟨rfl,rfl⟩;simp only [vV])|(go_at_call 152;refine (qm0 _).mono ?_;rintro e w' ⟨rfl,rfl⟩;simp only [vV]))
      refine bodyPost_ret (by simp [results,Tryz.results106,go_sem]<;>rfl) rfl ⟨rfl, ?_⟩
      repeat (first|exact Below.refl _ _|apply Below.drew|apply qe3)
   ·cases d
    ·simp only [Bool.and_false,Bool.false_or,Bool.false_eq_true,if_false]
     conv=>arg 3;simp only [vV]
     go_enter Tryz.func106,Tryz.ntmps106
     go_wp2_with fail
     go_cut [5] (fun s5 wx=>s5=.bool false∧wx=((((((w.alloc (Obj.cells #[.int .i64 x.kind,.int .i64 x.num,.string (BS x.str)] 26)).alloc (Obj.cells #[.int .i64 y.kind,.int .i64 y.num,.string (BS y.str)] 26)).alloc (Obj.cells #[.int .i64 0,.int .i64 0,.string ⟨#[]⟩] 26)).alloc (Obj.cells #[.int .i64 (bV false).kind,.int .i64 (bV false).num,.string (BS (bV false).str)] 26)).alloc (Obj.cells #[.int .i64 (bV false).kind,.int .i64 (bV false).num,.string (BS (bV false).str)] 26))).drew)
     case first=>go_region_with (go_at_call 64;refine (qc7 _ _).mono ?_;rintro e w' ⟨rfl,rfl⟩;simp only [vV]);all_goals (go_wp2_with fail;go_meet;exact ⟨rfl,rfl⟩)
     case rest=>
      obtain ⟨rfl,rfl⟩:=hcut
      go_wp2_with fail
      go_cut [15] (fun s15 wx=>s15=.bool false∧wx=((((((((w.alloc (Obj.cells #[.int .i64 x.kind,.int .i64 x.num,.string (BS x.str)] 26)).alloc (Obj.cells #[.int .i64 y.kind,.int .i64 y.num,.string (BS y.str)] 26)).alloc (Obj.cells #[.int .i64 0,.int .i64 0,.string ⟨#[]⟩] 26)).alloc (Obj.cells #[.int .i64 (bV false).kind,.int .i64 (bV false).num,.string (BS (bV false).str)] 26)).alloc (Obj.cells #[.int .i64 (bV false).kind,.int .i64 (bV false).num,.string (BS (bV false).str)] 26)).alloc (Obj.cells #[.int .i64 (bV true).kind,.int .i64 (bV true).num,.string (BS (bV true).str)] 26)).alloc (Obj.cells #[.int .i64 (bV true).kind,.int .i64 (bV true).num,.string (BS (bV true).str)] 26))).drew.drew)
      case first=>go_region_with (go_at_call 64;refine (qc7 _ _).mono ?_;rintro e w' ⟨rfl,rfl⟩;simp only [vV]);all_goals (go_wp2_with fail;go_meet;exact ⟨rfl,rfl⟩)
      case rest=>
       obtain ⟨rfl,rfl⟩:=hcut
       go_wp2_with (first|(go_at_call 64;refine (qc7 _ _).mono ?_;rintro e w' ⟨rfl,rfl⟩;simp only [vV])|(go_at_call 152;refine (qm0 _).mono ?_;rintro e w' ⟨rfl,rfl⟩;simp only [vV]))
       refine bodyPost_ret (by simp [results,Tryz.results106,go_sem]<;>rfl) rfl ⟨rfl, ?_⟩
       repeat (first|exact Below.refl _ _|apply Below.drew|apply qe3)
    ·simp only [Bool.and_true,Bool.false_or,Bool.false_eq_true,if_false,if_true]
     conv=>arg 3;simp only [vV]
     go_enter Tryz.func106,Tryz.ntmps106
     go_wp2_with fail
     go_cut [5] (fun s5 wx=>s5=.bool false∧wx=((((((w.alloc (Obj.cells #[.int .i64 x.kind,.int .i64 x.num,.string (BS x.str)] 26)).alloc (Obj.cells #[.int .i64 y.kind,.int .i64 y.num,.string (BS y.str)] 26)).alloc (Obj.cells #[.int .i64 0,.int .i64 0,.string ⟨#[]⟩] 26)).alloc (Obj.cells #[.int .i64 (bV false).kind,.int .i64 (bV false).num,.string (BS (bV false).str)] 26)).alloc (Obj.cells #[.int .i64 (bV false).kind,.int .i64 (bV false).num,.string (BS (bV false).str)] 26))).drew)
     case first=>go_region_with (go_at_call 64;refine (qc7 _ _).mono ?_;rintro e w' ⟨rfl,rfl⟩;simp only [vV]);all_goals (go_wp2_with fail;go_meet;exact ⟨rfl,rfl⟩)
     case rest=>
      obtain ⟨rfl,rfl⟩:=hcut
      go_wp2_with fail
      go_cut [15] (fun s15 wx=>s15=.bool true∧wx=((((((((w.alloc (Obj.cells #[.int .i64 x.kind,.int .i64 x.num,.string (BS x.str)] 26)).alloc (Obj.cells #[.int .i64 y.kind,.int .i64 y.num,.string (BS y.str)] 26)).alloc (Obj.cells #[.int .i64 0,.int .i64 0,.string ⟨#[]⟩] 26)).alloc (Obj.cells #[.int .i64 (bV false).kind,.int .i64 (bV false).num,.string (BS (bV false).str)] 26)).alloc (Obj.cells #[.int .i64 (bV false).kind,.int .i64 (bV false).num,.string (BS (bV false).str)] 26)).alloc (Obj.cells #[.int .i64 (bV true).kind,.int .i64 (bV true).num,.string (BS (bV true).str)] 26)).alloc (Obj.cells #[.int .i64 (bV true).kind,.int .i64 (bV true).num,.string (BS (bV true).str)] 26))).drew.drew)
      case first=>go_region_with (go_at_call 64;refine (qc7 _ _).mono ?_;rintro e w' ⟨rfl,rfl⟩;simp only [vV]);all_goals (go_wp2_with fail;go_meet;exact ⟨rfl,rfl⟩)
      case rest=>
       obtain ⟨rfl,rfl⟩:=hcut
       go_wp2_with (first|(go_at_call 64;refine (qc7 _ _).mono ?_;rintro e w' ⟨rfl,rfl⟩;simp only [vV])|(go_at_call 152;refine (qm0 _).mono ?_;rintro e w' ⟨rfl,rfl⟩;simp only [vV]))
       refine bodyPost_ret (by simp [results,Tryz.results106,go_sem]<;>rfl) rfl ⟨rfl, ?_⟩
       repeat (first|exact Below.refl _ _|apply Below.drew|apply qe3)
  ·simp only [Bool.false_or,if_true]
   conv=>arg 3;simp only [vV]
   go_enter Tryz.func106,Tryz.ntmps106
   go_wp2_with fail
   go_cut [5] (fun s5 wx=>s5=.bool true∧wx=((((((w.alloc (Obj.cells #[.int .i64 x.kind,.int .i64 x.num,.string (BS x.str)] 26)).alloc (Obj.cells #[.int .i64 y.kind,.int .i64 y.num,.string (BS y.str)] 26)).alloc (Obj.cells #[.int .i64 0,.int .i64 0,.string ⟨#[]⟩] 26)).alloc (Obj.cells #[.int .i64 (bV false).kind,.int .i64 (bV false).num,.string (BS (bV false).str)] 26)).alloc (Obj.cells #[.int .i64 (bV false).kind,.int .i64 (bV false).num,.string (BS (bV false).str)] 26))).drew)
   case first=>go_region_with (go_at_call 64;refine (qc7 _ _).mono ?_;rintro e w' ⟨rfl,rfl⟩;simp only [vV]);all_goals (go_wp2_with fail;go_meet;exact ⟨rfl,rfl⟩)
   case rest=>
    obtain ⟨rfl,rfl⟩:=hcut
    go_wp2_with (first|(go_at_call 64;refine (qc7 _ _).mono ?_;rintro e w' ⟨rfl,rfl⟩;simp only [vV])|(go_at_call 152;refine (qm0 _).mono ?_;rintro e w' ⟨rfl,rfl⟩;simp only [vV]))
    refine bodyPost_ret (by simp [results,Tryz.results106,go_sem]<;>rfl) rfl ⟨rfl, ?_⟩
    repeat (first|exact Below.refl _ _|apply Below.drew|apply qe3)
 ·simp only [Bool.true_or,if_true]
  conv=>arg 3;simp only [vV]
  go_enter Tryz.func106,Tryz.ntmps106
  go_wp2_with fail
  go_cut [5] (fun s5 wx=>s5=.bool true∧wx=(((((w.alloc (Obj.cells #[.int .i64 x.kind,.int .i64 x.num,.string (BS x.str)] 26)).alloc (Obj.cells #[.int .i64 y.kind,.int .i64 y.num,.string (BS y.str)] 26)).alloc (Obj.cells #[.int .i64 0,.int .i64 0,.string ⟨#[]⟩] 26)).alloc (Obj.cells #[.int .i64 (bV false).kind,.int .i64 (bV false).num,.string (BS (bV false).str)] 26))).drew)
  case first=>go_region_with (go_at_call 64;refine (qc7 _ _).mono ?_;rintro e w' ⟨rfl,rfl⟩;simp only [vV]);all_goals (go_wp2_with fail;go_meet;exact ⟨rfl,rfl⟩)
  case rest=>
   obtain ⟨rfl,rfl⟩:=hcut
   go_wp2_with (first|(go_at_call 64;refine (qc7 _ _).mono ?_;rintro e w' ⟨rfl,rfl⟩;simp only [vV])|(go_at_call 152;refine (qm0 _).mono ?_;rintro e w' ⟨rfl,rfl⟩;simp only [vV]))
   refine bodyPost_ret (by simp [results,Tryz.results106,go_sem]<;>rfl) rfl ⟨rfl, ?_⟩
   repeat (first|exact Below.refl _ _|apply Below.drew|apply qe3)
end
section
theorem jh1 (p b:Int) (hb:b≠0):∃r,p=b * p.tdiv b+r∧r.natAbs<b.natAbs:=by
 refine ⟨p.tmod b,(Int.mul_tdiv_add_tmod p b).symm, ?_⟩
 rw [Int.natAbs_tmod]
 exact Nat.mod_lt _ (Int.natAbs_pos.2 hb)
theorem vf8 (p b:Int) (hb1:b≠-1) (hp:Rng p):Rng (p.tdiv b):=by
 have h:=Int.natAbs_tdiv_le_natAbs p b
 unfold Rng at hp ⊢
 by_cases hm:p=-9223372036854775808
 ·by_cases h1:b=1
  ·rw [h1,Int.tdiv_one];exact hp
  ·by_cases h0:b=0
   ·rw [h0,Int.tdiv_zero];omega
   ·have h2:=Int.natAbs_tdiv p b
    have h3:p.natAbs.div b.natAbs≤p.natAbs / 2:=Nat.div_le_div_left (by omega) (by omega)
    omega
 ·omega
theorem vk3 {n:Int} (h:Rng n):wrap64 n=n:=by
 unfold Rng at h;unfold wrap64;omega
theorem rng_wrap (n:Int):Rng (wrap64 n):=by
 unfold Rng wrap64;omega
theorem vg9 (n:Int):qm7 n=true↔Rng n:=by simp [qm7,Rng]
theorem mul_test {a b:Int} (ha:Rng a) (hb:Rng b) (h0:b≠0) :
  ((a==-9223372036854775808&&b==-1)||!(wrap64 ((wrap64 (a * b)).tdiv b)==a))=!qm7 (a * b):=by
 cases hf:qm7 (a * b) with
 | true=>
  have hr:=(vg9 _).1 hf
  have e:wrap64 (a * b)=a * b:=vk3 hr
  have e2:(a * b).tdiv b=a:=Int.mul_tdiv_cancel a h0
  rw [e,e2,vk3 ha]
  have:¬(a=-9223372036854775808∧b=-1):=by
   rintro ⟨rfl,rfl⟩
   unfold Rng at hr;omega
  simp
  intro h1 h2
  exact this ⟨h1,h2⟩
 | false=>
  have hn:¬Rng (a * b):=fun h=>by rw [(vg9 _).2 h] at hf;cases hf
  by_cases h1:b=-1
  ·have:a=-9223372036854775808:=by
    subst h1;unfold Rng at hn ha;omega
   simp [h1,this]
  ·have hb1:=vf8 (wrap64 (a * b)) b h1 (rng_wrap _)
   rw [vk3 hb1]
   obtain ⟨r,hr,hrb⟩:=jh1 (wrap64 (a * b)) b h0
   have:¬(wrap64 (a * b)).tdiv b=a:=by
    intro he
    rw [he,Int.mul_comm b a] at hr
    generalize a * b=m at *
    unfold Rng at *
    unfold wrap64 at hr
    omega
   simp [this]
theorem vz1 {a b:Int} (ha:Rng a):(a==-9223372036854775808&&b==-1)=!qm7 (a.tdiv b):=by
 by_cases h1:b=-1
 ·subst h1
  have e:a.tdiv (-1)=-a:=by rw [Int.tdiv_neg,Int.tdiv_one]
  rw [e,Bool.eq_iff_iff];simp [qm7];unfold Rng at ha;omega
 ·have:=(vg9 _).2 (vf8 a b h1 ha)
  rw [this];simp;intro _;exact h1
end
section
theorem least_any (a b:Int) (w:World) :
  Calls Tryz.prog 205 #[.int .i64 a,.int .i64 b] w fun e w'=>e=.returned (.bool (a==-9223372036854775808&&b==-1))∧w'=w:=by
 go_enter Tryz.func205,Tryz.ntmps205
 go_wp2_with fail
 all_goals (go_ret;exact ⟨qc0 (by simp<;>omega),rfl⟩)
theorem qt0 {a b:Int} {v:Bool} (h:(a==-9223372036854775808&&b==-1)=v) (w:World) :
  Calls Tryz.prog 205 #[.int .i64 a,.int .i64 b] w fun e w'=>e=.returned (.bool v)∧w'=w:=by
 rw [←h];exact least_any a b w
theorem vy3 (x y:V) (hx:Rng x.num) (w:World) :
  Calls Tryz.prog 162 #[vV x,vV y] w fun e w'=>e=.returned (vV (jc7 x y))∧Below w.heap.size w w':=by
 have ht:=vz1 (b:=y.num) hx
 unfold jc7
 cases hk:qg4 x y with
 | true=>
  have HK:=v7 hk
  clear hk
  cases h0:(y.num==0) with
  | true=>
   clear ht
   simp only [Bool.not_true,Bool.and_false,Bool.false_and,Bool.false_eq_true,if_false]
   conv=>arg 3;simp only [vV]
   go_enter Tryz.func162,Tryz.ntmps162
   go_wp2_with (first|(go_at_call 153;refine (qa6 x y _).mono ?_;rintro e w1 ⟨rfl,hb1⟩;rw [q9 HK];obtain ⟨hc1,hf1⟩:=v9 hb1;have hz1:w.heap.size+2<w1.heap.size:=(by have:=hb1.size;simp at this;omega))|(go_at_call 152;refine (qd7 _).mono ?_;rintro e w2 ⟨rfl,hb2⟩;obtain ⟨hc2,hf2⟩:=v9 hb2;simp only [vV]))
   refine bodyPost_ret (by simp [results,Tryz.results162,go_sem,hc2,hc1,hz1]<;>rfl) rfl ⟨rfl, ?_⟩
   exact ((((v8 (v8 (x4 _ _ _ _) hb1) hb2).setCell (by simp;omega) _).setCell (by simp;omega) _).setCell (by simp;omega) _)
  | false=>
   have hy0:¬y.num=0:=by simpa using h0
   cases hf:qm7 (x.num.tdiv y.num) with
   | true=>
    rw [hf,Bool.not_true] at ht
    have HL:=v7 ht
    have HW:=v7 (qi7 hf)
    clear ht hf
    simp only [Bool.not_false,Bool.and_self,if_true]
    conv=>arg 3;simp only [vV]
    go_enter Tryz.func162,Tryz.ntmps162
    go_wp2_with (first|(go_at_call 153;refine (qa6 x y _).mono ?_;rintro e w1 ⟨rfl,hb1⟩;rw [q9 HK];obtain ⟨hc1,hf1⟩:=v9 hb1;have hz1:w.heap.size+2<w1.heap.size:=(by have:=hb1.size;simp at this;omega))|(go_at_call 205;refine (qt0 (q9 HL) _).mono ?_;rintro e w3 ⟨rfl,rfl⟩)|(go_at_call 62;rw [q9 HW];refine (qp7 _ _).mono ?_;rintro e w2 ⟨rfl,hb2⟩;obtain ⟨hc2,hf2⟩:=v9 hb2;simp only [vV]))
    refine bodyPost_ret (by simp [results,Tryz.results162,go_sem,hc2,hc1,hz1]<;>rfl) rfl ⟨rfl, ?_⟩
    exact ((((v8 (v8 (x4 _ _ _ _) hb1) hb2).setCell (by simp;omega) _).setCell (by simp;omega) _).setCell (by simp;omega) _)
   | false=>
    rw [hf,Bool.not_false] at ht
    have HL:=v7 ht
    clear ht hf
    simp only [Bool.and_false,Bool.false_eq_true,if_false]
    conv=>arg 3;simp only [vV]
    go_enter Tryz.func162,Tryz.ntmps162
    go_wp2_with (first|(go_at_call 153;refine (qa6 x y _).mono ?_;rintro e w1 ⟨rfl,hb1⟩;rw [q9 HK];obtain ⟨hc1,hf1⟩:=v9 hb1;have hz1:w.heap.size+2<w1.heap.size:=(by have:=hb1.size;simp at this;omega))|(go_at_call 205;refine (qt0 (q9 HL) _).mono ?_;rintro e w3 ⟨rfl,rfl⟩)|(go_at_call 152;refine (qd7 _).mono ?_;rintro e w2 ⟨rfl,hb2⟩;obtain ⟨hc2,hf2⟩:=v9 hb2;simp only [vV]))
    refine bodyPost_ret (by simp [results,Tryz.results162,go_sem,hc2,hc1,hz1]<;>rfl) rfl ⟨rfl, ?_⟩
    exact ((((v8 (v8 (x4 _ _ _ _) hb1) hb2).setCell (by simp;omega) _).setCell (by simp;omega) _).setCell (by simp;omega) _)
 | false=>
  have HK:=v7 hk
  clear hk ht
  simp only [Bool.false_and,Bool.false_eq_true,if_false]
  conv=>arg 3;simp only [vV]
  go_enter Tryz.func162,Tryz.ntmps162
  go_wp2_with (first|(go_at_call 153;refine (qa6 x y _).mono ?_;rintro e w1 ⟨rfl,hb1⟩;rw [q9 HK];obtain ⟨hc1,hf1⟩:=v9 hb1;have hz1:w.heap.size+2<w1.heap.size:=(by have:=hb1.size;simp at this;omega))|(go_at_call 152;refine (qd7 _).mono ?_;rintro e w2 ⟨rfl,hb2⟩;obtain ⟨hc2,hf2⟩:=v9 hb2;simp only [vV]))
  refine bodyPost_ret (by simp [results,Tryz.results162,go_sem,hc2,hc1,hz1]<;>rfl) rfl ⟨rfl, ?_⟩
  exact ((((v8 (v8 (x4 _ _ _ _) hb1) hb2).setCell (by simp;omega) _).setCell (by simp;omega) _).setCell (by simp;omega) _)
theorem vk1 (x y:V) (hx:Rng x.num) (hy:Rng y.num) (w:World) :
  Calls Tryz.prog 161 #[vV x,vV y] w fun e w'=>e=.returned (vV (je1 x y))∧Below w.heap.size w w':=by
 unfold je1
 cases hk:qg4 x y with
 | true=>
  have HK:=v7 hk
  clear hk
  cases h0:(y.num==0) with
  | true=>
   have hm:x.num * y.num=0:=by
    have:y.num=0:=by simpa using h0
    rw [this,Int.mul_zero]
   rw [hm]
   clear hm
   simp only [show qm7 0=true from rfl,Bool.and_self,if_true]
   conv=>arg 3;simp only [vV]
   go_enter Tryz.func161,Tryz.ntmps161
   go_wp2_with (first|(go_at_call 153;refine (qa6 x y _).mono ?_;rintro e w1 ⟨rfl,hb1⟩;rw [q9 HK];obtain ⟨hc1,hf1⟩:=v9 hb1;have hz1:w.heap.size+2<w1.heap.size:=(by have:=hb1.size;simp at this;omega))|(go_at_call 62;refine (qp7 _ _).mono ?_;rintro e w2 ⟨rfl,hb2⟩;obtain ⟨hc2,hf2⟩:=v9 hb2;simp only [vV]))
   refine bodyPost_ret (by simp [results,Tryz.results161,go_sem,hc2,hc1,hz1]<;>rfl) rfl ⟨rfl, ?_⟩
   exact ((((v8 (v8 (x4 _ _ _ _) hb1) hb2).setCell (by simp;omega) _).setCell (by simp;omega) _).setCell (by simp;omega) _)
  | false=>
   have hy0:¬y.num=0:=by simpa using h0
   have ht:=mul_test hx hy hy0
   cases hL:(x.num==-9223372036854775808&&y.num==-1) with
   | true=>
    rw [hL,Bool.true_or] at ht
    have hf:qm7 (x.num * y.num)=false:=by simpa using ht.symm
    rw [hf]
    have HL:=v7 hL
    clear ht hf hL
    simp only [Bool.and_false,Bool.false_eq_true,if_false]
    conv=>arg 3;simp only [vV]
    go_enter Tryz.func161,Tryz.ntmps161
    go_wp2_with (first|(go_at_call 153;refine (qa6 x y _).mono ?_;rintro e w1 ⟨rfl,hb1⟩;rw [q9 HK];obtain ⟨hc1,hf1⟩:=v9 hb1;have hz1:w.heap.size+2<w1.heap.size:=(by have:=hb1.size;simp at this;omega)))
    go_quiet ((go_at_call 205;exact Calls.quiet_of_same (qt0 (q9 HL) _)))
    go_wp2_with (first|(go_at_call 152;refine (qd7 _).mono ?_;rintro e w2 ⟨rfl,hb2'⟩;have hb2:Below w1.heap.size w1 w2:=(below_drewN (Below.refl w1.heap.size w1) _).trans hb2';clear hb2';obtain ⟨hc2,hf2⟩:=v9 hb2;simp only [vV]))
    refine bodyPost_ret (by simp [results,Tryz.results161,go_sem,hc2,hc1,hz1]<;>rfl) rfl ⟨rfl, ?_⟩
    exact ((((v8 (v8 (x4 _ _ _ _) hb1) hb2).setCell (by simp;omega) _).setCell (by simp;omega) _).setCell (by simp;omega) _)
   | false=>
    rw [hL,Bool.false_or] at ht
    have HL:=v7 hL
    clear hL
    cases hf:qm7 (x.num * y.num) with
    | true=>
     rw [hf,Bool.not_true] at ht
     have ht2:(wrap64 ((wrap64 (x.num * y.num)).tdiv y.num) != x.num)=false:=ht
     have HW:=v7 (qi7 hf)
     clear hf
     simp only [Bool.and_self,if_true]
     conv=>arg 3;simp only [vV]
     go_enter Tryz.func161,Tryz.ntmps161
     go_wp2_with (first|(go_at_call 153;refine (qa6 x y _).mono ?_;rintro e w1 ⟨rfl,hb1⟩;rw [q9 HK];obtain ⟨hc1,hf1⟩:=v9 hb1;have hz1:w.heap.size+2<w1.heap.size:=(by have:=hb1.size;simp at this;omega)))
     go_quiet ((go_at_call 205;exact Calls.quiet_of_same (qt0 (q9 HL) _)))
     go_wp2_with (first|(go_at_call 62;rw [q9 HW];refine (qp7 _ _).mono ?_;rintro e w2 ⟨rfl,hb2'⟩;have hb2:Below w1.heap.size w1 w2:=(below_drewN (Below.refl w1.heap.size w1) _).trans hb2';clear hb2';obtain ⟨hc2,hf2⟩:=v9 hb2;simp only [vV]))
     refine bodyPost_ret (by simp [results,Tryz.results161,go_sem,hc2,hc1,hz1]<;>rfl) rfl ⟨rfl, ?_⟩
     exact ((((v8 (v8 (x4 _ _ _ _) hb1) hb2).setCell (by simp;omega) _).setCell (by simp;omega) _).setCell (by simp;omega) _)
    | false=>
     rw [hf,Bool.not_false] at ht
     have ht2:(wrap64 ((wrap64 (x.num * y.num)).tdiv y.num) != x.num)=true:=ht
     clear hf
     simp only [Bool.and_false,Bool.false_eq_true,if_false]
     conv=>arg 3;simp only [vV]
     go_enter Tryz.func161,Tryz.ntmps161
     go_wp2_with (first|(go_at_call 153;refine (qa6 x y _).mono ?_;rintro e w1 ⟨rfl,hb1⟩;rw [q9 HK];obtain ⟨hc1,hf1⟩:=v9 hb1;have hz1:w.heap.size+2<w1.heap.size:=(by have:=hb1.size;simp at this;omega)))
     go_quiet ((go_at_call 205;exact Calls.quiet_of_same (qt0 (q9 HL) _)))
     go_wp2_with (first|(go_at_call 152;refine (qd7 _).mono ?_;rintro e w2 ⟨rfl,hb2'⟩;have hb2:Below w1.heap.size w1 w2:=(below_drewN (Below.refl w1.heap.size w1) _).trans hb2';clear hb2';obtain ⟨hc2,hf2⟩:=v9 hb2;simp only [vV]))
     refine bodyPost_ret (by simp [results,Tryz.results161,go_sem,hc2,hc1,hz1]<;>rfl) rfl ⟨rfl, ?_⟩
     exact ((((v8 (v8 (x4 _ _ _ _) hb1) hb2).setCell (by simp;omega) _).setCell (by simp;omega) _).setCell (by simp;omega) _)
 | false=>
  have HK:=v7 hk
  clear hk
  simp only [Bool.false_and,Bool.false_eq_true,if_false]
  conv=>arg 3;simp only [vV]
  go_enter Tryz.func161,Tryz.ntmps161
  go_wp2_with (first|(go_at_call 153;refine (qa6 x y _).mono ?_;rintro e w1 ⟨rfl,hb1⟩;rw [q9 HK];obtain ⟨hc1,hf1⟩:=v9 hb1;have hz1:w.heap.size+2<w1.heap.size:=(by have:=hb1.size;simp at this;omega))|(go_at_call 152;refine (qd7 _).mono ?_;rintro e w2 ⟨rfl,hb2⟩;obtain ⟨hc2,hf2⟩:=v9 hb2;simp only [vV]))
  refine bodyPost_ret (by simp [results,Tryz.results161,go_sem,hc2,hc1,hz1]<;>rfl) rfl ⟨rfl, ?_⟩
  exact ((((v8 (v8 (x4 _ _ _ _) hb1) hb2).setCell (by simp;omega) _).setCell (by simp;omega) _).setCell (by simp;omega) _)
end
section
structure Pr where
 name:List UInt8
 val:V
def EvAt (w:World) (b off:Nat) (ps:List Pr):Prop:=∀(k:Nat) (p:Pr),ps[k]?=some p →
 w.cell? ⟨b,off+k * 4,none⟩=some (.string (BS p.name))∧w.cell? ⟨b,off+k * 4+1,none⟩=some (.int .i64 p.val.kind) ∧
 w.cell? ⟨b,off+k * 4+2,none⟩=some (.int .i64 p.val.num)∧w.cell? ⟨b,off+k * 4+3,none⟩=some (.string (BS p.val.str))
def vk5 (ps:List Pr) (n:List UInt8):Bool:=ps.any fun p=>p.name==n
theorem qg9 {a w:World} (h:Below a.heap.size a w) (o:Obj):Below a.heap.size a (w.alloc o):=h.alloc h.size o
theorem EvAt.below {w w':World} {b off:Nat} {ps:List Pr} (h:EvAt w b off ps) (hb:Below w.heap.size w w') (hlt:b<w.heap.size):EvAt w' b off ps:=by
 intro k p hk
 obtain ⟨h1,h2,h3,h4⟩:=h k p hk
 exact ⟨(hb.cell hlt).trans h1,(hb.cell hlt).trans h2,(hb.cell hlt).trans h3,(hb.cell hlt).trans h4⟩
theorem any_drop {ps:List Pr} {n:List UInt8} {k:Nat} {p:Pr} (h:ps[k]?=some p):vk5 (ps.drop k) n=(p.name==n||vk5 (ps.drop (k+1)) n):=by
 obtain ⟨hk,he⟩:=List.getElem?_eq_some_iff.1 h
 unfold vk5
 rw [List.drop_eq_getElem_cons hk,List.any_cons,he]
theorem has_any (b off cap:Nat) (ps:List Pr) (s:ByteArray) (w:World) (hps:ps.length≤8) (hw:EvAt w b off ps) (hlt:b<w.heap.size) :
  Calls Tryz.prog 60 #[.slice (some ⟨b,off,none⟩) ps.length cap,.string s] w fun e w'=>e=.returned (.bool (vk5 ps s.data.toList))∧Below w.heap.size w w':=by
 go_enter Tryz.func60,Tryz.ntmps60
 go_wp2_with fail
 go_loopw [6,9] (fun _ i wr=>∃k:Nat,k≤ps.length∧i=.int .i64 k∧Hid (vk5 ps s.data.toList=vk5 (ps.drop k) s.data.toList)∧Below w.heap.size w wr) (fun _ i _=>ps.length - (intOf i).toNat)
 case atStart=>exact ⟨0,Nat.zero_le _,rfl,v7 (by rw [List.drop_zero]),Below.refl _ _⟩
 case round=>
  obtain ⟨k,hk,rfl,hh,hb⟩:=hrel
  by_cases hlt2:k<ps.length
  ·obtain ⟨p,hp⟩:∃p,ps[k]?=some p:=⟨_,List.getElem?_eq_getElem hlt2⟩
   obtain ⟨h1,h2,h3,h4⟩:=(hw.below hb hlt) k p hp
   have hA:=any_drop (n:=s.data.toList) hp
   have hst:((BS p.name).toList==s.toList)=(p.name==s.data.toList):=by rw [qi0,Lib.toList_data]
   cases he:(p.name==s.data.toList) with
   | true=>
    rw [he,Bool.true_or] at hA
    rw [he] at hst
    have HT:Hid (vk5 ps s.data.toList=true):=v7 (by rw [q9 hh,hA])
    clear hA hp he hh
    go_wp2_with fail
    go_ret
    exact ⟨qc0 (by rw [q9 HT]),qg9 hb _⟩
   | false=>
    rw [he,Bool.false_or] at hA
    rw [he] at hst
    have HT:Hid (vk5 ps s.data.toList=vk5 (ps.drop (k+1)) s.data.toList):=v7 (by rw [q9 hh,hA])
    clear hA hp he hh
    go_wp2_with fail
    exact ⟨⟨k+1,by omega,by go_num,HT,qg9 hb _⟩,by simp [intOf];omega⟩
  ·have HT:Hid (vk5 ps s.data.toList=false):=v7 (by rw [q9 hh,List.drop_of_length_le (by omega)];rfl)
   clear hh
   go_wp2_with fail
   go_ret
   exact ⟨qc0 (by rw [q9 HT]),hb⟩
def qs6 (ps:List Pr) (n:List UInt8):V:=match ps.find? fun p=>p.name==n with
 | some p=>p.val
 | none=>nV
theorem vn6 {ps:List Pr} {n:List UInt8} {k:Nat} {p:Pr} (h:ps[k]?=some p):qs6 (ps.drop k) n=if p.name==n then p.val else qs6 (ps.drop (k+1)) n:=by
 obtain ⟨hk,he⟩:=List.getElem?_eq_some_iff.1 h
 unfold qs6
 rw [List.drop_eq_getElem_cons hk,he,List.find?_cons]
 cases p.name==n<;>rfl
theorem find_any (b off cap:Nat) (ps:List Pr) (s:ByteArray) (w:World) (hps:ps.length≤8) (hw:EvAt w b off ps) (hlt:b<w.heap.size) :
  Calls Tryz.prog 61 #[.slice (some ⟨b,off,none⟩) ps.length cap,.string s] w fun e w'=>e=.returned (vV (qs6 ps s.data.toList))∧Below w.heap.size w w':=by
 obtain ⟨F,hF⟩:∃f,qs6 ps s.data.toList=f:=⟨_,rfl⟩
 rw [hF]
 have HF:=v7 hF
 clear hF
 go_enter Tryz.func61,Tryz.ntmps61
 go_wp2_with fail
 go_loopw [6,9] (fun _ i wr=>∃k:Nat,k≤ps.length∧i=.int .i64 k∧Hid (F=qs6 (ps.drop k) s.data.toList)∧Below (w.heap.size+1) (w.alloc (.cells #[.int .i64 0,.int .i64 0,.string ⟨#[]⟩] 26)) wr) (fun _ i _=>ps.length - (intOf i).toNat)
 case atStart=>exact ⟨0,Nat.zero_le _,rfl,v7 (by rw [List.drop_zero,q9 HF]),Below.refl _ _⟩
 case round=>
  obtain ⟨k,hk,rfl,hh,hb⟩:=hrel
  have hb':Below (w.alloc (.cells #[.int .i64 0,.int .i64 0,.string ⟨#[]⟩] 26)).heap.size (w.alloc (.cells #[.int .i64 0,.int .i64 0,.string ⟨#[]⟩] 26)) wr:=by simpa using hb
  have hbw:=qb5 hb'
  obtain ⟨hc0,hf0⟩:=v9 hb'
  have hz0:w.heap.size<wr.heap.size:=by have:=hb'.size;simp at this;omega
  by_cases hlt2:k<ps.length
  ·obtain ⟨p,hp⟩:∃p,ps[k]?=some p:=⟨_,List.getElem?_eq_getElem hlt2⟩
   obtain ⟨h1,h2,h3,h4⟩:=hw k p hp
   have hA:=vn6 (n:=s.data.toList) hp
   have hst:((BS p.name).toList==s.toList)=(p.name==s.data.toList):=by rw [qi0,Lib.toList_data]
   cases he:(p.name==s.data.toList) with
   | true=>
    rw [he,if_pos rfl] at hA
    rw [he] at hst
    have HT:Hid (F=p.val):=v7 (by rw [q9 hh,hA])
    clear hA hp he hh
    go_wp2_with fail
    refine bodyPost_ret (by simp [results,Tryz.results61,go_sem,hc0,hz0]<;>rfl) rfl ⟨?_, ?_⟩
    ·rw [q9 HT];rfl
    ·exact qg9 (((hbw.setCell (by simp) _).setCell (by simp) _).setCell (by simp) _) _
   | false=>
    rw [he,if_neg (by simp)] at hA
    rw [he] at hst
    have HT:Hid (F=qs6 (ps.drop (k+1)) s.data.toList):=v7 (by rw [q9 hh,hA])
    clear hA hp he hh
    go_wp2_with fail
    exact ⟨⟨k+1,by omega,by go_num,HT,hb.alloc (by omega) _⟩,by simp [intOf];omega⟩
  ·have HT:Hid (F=nV):=v7 (by rw [q9 hh,List.drop_of_length_le (by omega)];rfl)
   clear hh
   go_wp2_with fail
   refine bodyPost_ret (by simp [results,Tryz.results61,go_sem,hc0]<;>rfl) rfl ⟨?_, ?_⟩
   ·rw [q9 HT];rfl
   ·exact ((hbw.setCell (by simp) _).setCell (by simp) _).setCell (by simp) _
theorem jd1 (a:Option Addr) (cap:Nat) (s:ByteArray) (w:World) :
  Calls Tryz.prog 61 #[.slice a 0 cap,.string s] w fun e w'=>e=.returned (vV nV)∧Below w.heap.size w w':=by
 go_enter Tryz.func61,Tryz.ntmps61
 go_wp2_with fail
 refine wp_loop_rounds 1 ?_
 rw [rounds_succ]
 go_wp2_with fail
 refine bodyPost_ret (by simp [results,Tryz.results61,go_sem]<;>rfl) rfl ⟨rfl,(Below.refl _ _).alloc (Nat.le_refl _) _⟩
def qi2 (n:List UInt8):Bool:=decide (n.length≤16)&&qs8 n
def qx5 (v:V):Bool:=
 if v.kind==0 then v.num==0&&v.str.isEmpty
 else if v.kind==1 then (v.num==0||v.num==1)&&v.str.isEmpty
 else if v.kind==2 then v.str.isEmpty
 else if v.kind==3 then v.num==0&&decide (v.str.length≤20)
 else false
end
section
theorem qk2 (s:ByteArray) (hs:s.size≤140737488355328) (w:World) :
  Calls Tryz.prog 58 #[.string s] w fun e w'=>e=.returned (.bool (qi2 s.data.toList))∧Below w.heap.size w w':=by
 unfold qi2
 rw [j4]
 obtain ⟨nb,hn⟩:∃nb,qs8 s.data.toList=nb:=⟨_,rfl⟩
 rw [hn]
 have HN:=v7 hn
 clear hn
 by_cases h:s.size≤16
 ·go_enter Tryz.func58,Tryz.ntmps58
  go_wp2_with (go_at_call 105;refine (jd5 _ hs _).mono ?_;rintro e w' ⟨rfl,hb⟩;rw [q9 HN])
  all_goals (go_ret;exact ⟨qc0 (by simp_all),by assumption⟩)
 ·go_enter Tryz.func58,Tryz.ntmps58
  go_wp2_with fail
  go_ret
  exact ⟨qc0 (by simp<;>omega),Below.refl _ _⟩
theorem vy6 (l:List UInt8):(BS l).toList.isEmpty=l.isEmpty:=by rw [qi0]
theorem qk9 (v:V) (hv:v.str.length≤140737488355328) (w:World) :
  Calls Tryz.prog 59 #[vV v] w fun e w'=>e=.returned (.bool (qx5 v))∧Below w.heap.size w w':=by
 have he:=vy6 v.str
 have hz:=qi8 v.str
 unfold qx5
 obtain ⟨em,hem⟩:∃em,v.str.isEmpty=em:=⟨_,rfl⟩
 rw [hem] at he ⊢
 clear hem
 conv=>arg 3;simp only [vV]
 cases h0:(v.kind==0)
 ·cases h1:(v.kind==1)
  ·cases h2:(v.kind==2)
   ·cases h3:(v.kind==3)
    ·simp only [Bool.false_eq_true,if_false]
     go_enter Tryz.func59,Tryz.ntmps59
     go_wp2_with fail
     go_ret
     exact ⟨rfl,(Below.refl _ _).alloc (Nat.le_refl _) _⟩
    ·simp only [Bool.false_eq_true,if_false,if_true]
     go_enter Tryz.func59,Tryz.ntmps59
     go_wp2_with fail
     all_goals (go_ret;exact ⟨qc0 (by simp_all<;>omega),(Below.refl _ _).alloc (Nat.le_refl _) _⟩)
   ·simp only [Bool.false_eq_true,if_false,if_true]
    go_enter Tryz.func59,Tryz.ntmps59
    go_wp2_with fail
    all_goals (go_ret;exact ⟨qc0 (by simp_all<;>omega),(Below.refl _ _).alloc (Nat.le_refl _) _⟩)
  ·simp only [Bool.false_eq_true,if_false,if_true]
   go_enter Tryz.func59,Tryz.ntmps59
   go_wp2_with fail
   all_goals (go_ret;exact ⟨qc0 (by simp_all<;>omega),(Below.refl _ _).alloc (Nat.le_refl _) _⟩)
 ·simp only [if_true]
  go_enter Tryz.func59,Tryz.ntmps59
  go_wp2_with fail
  all_goals (go_ret;exact ⟨qc0 (by simp_all<;>omega),(Below.refl _ _).alloc (Nat.le_refl _) _⟩)
end
section
theorem j8 (b:Bool) (w:World):Calls Tryz.prog 132 #[.bool b] w fun e w'=>e=.returned (vV (bV b))∧Below w.heap.size w w':=by
 cases b
 all_goals
  go_enter Tryz.func132,Tryz.ntmps132
  go_wp2_with fail
  refine bodyPost_ret (by simp [results,Tryz.results132,go_sem]<;>first|rfl|exact ⟨rfl,rfl,rfl⟩) rfl ⟨rfl, ?_⟩
  repeat' (first|exact qb2 _ _ _|refine Below.setCell ?_ (by simp) _)
theorem vj4 (x:V) (w:World):Calls Tryz.prog 177 #[vV x] w fun e w'=>e=.returned (vV (qz7 x))∧Below w.heap.size w w':=by
 unfold qz7
 cases hk:(x.kind==1) with
 | true=>
  have hk':(x.kind != 1)=false:=by simp only [bne,hk];rfl
  simp only [vV]
  go_enter Tryz.func177,Tryz.ntmps177
  go_wp2_with (go_at_call 132;refine (j8 _ _).mono ?_;rintro e w' ⟨rfl,hb⟩;obtain ⟨hc,hf⟩:=v9 hb;simp only [vV])
  refine bodyPost_ret (by simp [results,Tryz.results177,go_sem,hc]<;>rfl) rfl ⟨rfl, ?_⟩
  exact ((((v8 (qb2 _ _ _) hb).setCell (by simp) _).setCell (by simp) _).setCell (by simp) _)
 | false=>
  have hk':(x.kind != 1)=true:=by simp only [bne,hk];rfl
  simp only [vV]
  go_enter Tryz.func177,Tryz.ntmps177
  go_wp2_with fail
  refine bodyPost_ret (by simp [results,Tryz.results177,go_sem]<;>first|rfl|exact ⟨rfl,rfl,rfl⟩) rfl ⟨rfl, ?_⟩
  repeat' (first|exact qb2 _ _ _|refine Below.setCell ?_ (by simp) _)
theorem qy8 (x y:V) (w:World):Calls Tryz.prog 222 #[vV x,vV y] w fun e w'=>e=.returned (vV (eqV x y))∧Below w.heap.size w w':=by
 have he:=fun w=>qr3 x y w
 simp only [vV] at he
 unfold eqV
 generalize decide (x=y)=d at *
 cases h0:(x.kind==0) with
 | true=>
  simp only [Bool.true_or,if_true,vV]
  go_enter Tryz.func222,Tryz.ntmps222
  go_wp2_with fail
  refine bodyPost_ret (by simp [results,Tryz.results222,go_sem]<;>first|rfl|exact ⟨rfl,rfl,rfl⟩) rfl ⟨rfl, ?_⟩
  repeat' (first|exact x4 _ _ _ _|refine Below.setCell ?_ (by simp) _)
 | false=>
  cases h1:(x.kind==y.kind) with
  | false=>
   have h1':(x.kind != y.kind)=true:=by simp only [bne,h1];rfl
   simp only [Bool.false_or,Bool.not_false,if_true,vV]
   go_enter Tryz.func222,Tryz.ntmps222
   go_wp2_with fail
   refine bodyPost_ret (by simp [results,Tryz.results222,go_sem]<;>first|rfl|exact ⟨rfl,rfl,rfl⟩) rfl ⟨rfl, ?_⟩
   repeat' (first|exact x4 _ _ _ _|refine Below.setCell ?_ (by simp) _)
  | true=>
   have h1':(x.kind != y.kind)=false:=by simp only [bne,h1];rfl
   simp only [Bool.false_or,Bool.not_true,Bool.false_eq_true,if_false,vV]
   go_enter Tryz.func222,Tryz.ntmps222
   go_wp2_with (go_at_call 132;refine (j8 _ _).mono ?_;rintro e w' ⟨rfl,hb⟩;obtain ⟨hc,hf⟩:=v9 hb;have hz:w.heap.size+2<w'.heap.size:=(by have:=hb.size;simp at this;omega);have hB:Below w.heap.size w w':=(by first|exact v8 (x4 _ _ _ _) hb|exact v8 (by assumption) hb);clear hb;simp only [vV])
   refine bodyPost_ret (by simp [results,Tryz.results222,go_sem, *]<;>rfl) rfl ⟨rfl, ?_⟩
   exact (((hB.setCell (by simp;omega) _).setCell (by simp;omega) _).setCell (by simp;omega) _)
end
section
theorem vv5 {a b M:Int} (hb:0<b) (hM:0≤M):a≤M.tdiv b↔a * b≤M:=by
 rw [Int.tdiv_eq_ediv_of_nonneg hM]
 exact Int.le_ediv_iff_mul_le hb
theorem fit_pos {a b:Int} (ha:0<a) (hb:0<b):decide (a≤Int.tdiv 9223372036854775807 b)=qm7 (a * b):=by
 have h:=vv5 (a:=a) (M:=9223372036854775807) hb (by decide)
 have hp:0<a * b:=Int.mul_pos ha hb
 unfold qm7
 rw [decide_eq_true (show -9223372036854775808≤a * b by omega),Bool.true_and]
 simp only [h]
theorem fit_neg {a b:Int} (ha:a<0) (hb:b<0):decide (a≥Int.tdiv 9223372036854775807 b)=qm7 (a * b):=by
 have h:=vv5 (a:=-a) (b:=-b) (M:=9223372036854775807) (by omega) (by decide)
 rw [Int.neg_mul_neg,Int.tdiv_neg] at h
 have hp:0<a * b:=Int.mul_pos_of_neg_of_neg ha hb
 unfold qm7
 rw [decide_eq_true (show -9223372036854775808≤a * b by omega),Bool.true_and]
 have:a≥Int.tdiv 9223372036854775807 b↔a * b≤9223372036854775807:=by rw [←h];omega
 simp only [this]
theorem vn8 {a b:Int} (ha:0<a) (hb:b<0):decide (b≥Int.tdiv (-9223372036854775808) a)=qm7 (a * b):=by
 have h:=vv5 (a:=-b) (b:=a) (M:=9223372036854775808) ha (by decide)
 have hp:a * b<0:=Int.mul_neg_of_pos_of_neg ha hb
 unfold qm7
 rw [decide_eq_true (show a * b≤9223372036854775807 by omega),Bool.and_true]
 rw [Int.neg_mul,Int.mul_comm b a] at h
 have:b≥Int.tdiv (-9223372036854775808) a↔-9223372036854775808≤a * b:=by
  rw [Int.neg_tdiv]
  constructor
  ·intro q
   have:=h.1 (by omega)
   omega
  ·intro q
   have:=h.2 (by omega)
   omega
 simp only [this]
theorem vg0 {a:Int} (ha:0<a):wrap64 (-Int.tdiv 9223372036854775808 a)=Int.tdiv (-9223372036854775808) a:=by
 have h1:0≤Int.tdiv 9223372036854775808 a:=Int.tdiv_nonneg (by decide) (by omega)
 have h2:Int.tdiv 9223372036854775808 a≤9223372036854775808:=by
  rw [Int.tdiv_eq_ediv_of_nonneg (by decide)]
  exact Int.ediv_le_self _ (by decide)
 rw [Int.neg_tdiv]
 exact qi7 (by simp [qm7];omega)
theorem wrap_most {b:Int} (hb:b<0):wrap64 (Int.tdiv 9223372036854775807 b)=Int.tdiv 9223372036854775807 b:=by
 have e:Int.tdiv 9223372036854775807 b=-Int.tdiv 9223372036854775807 (-b):=by rw [Int.tdiv_neg,Int.neg_neg]
 have h1:0≤Int.tdiv 9223372036854775807 (-b):=Int.tdiv_nonneg (by decide) (by omega)
 have h2:Int.tdiv 9223372036854775807 (-b)≤9223372036854775807:=by
  rw [Int.tdiv_eq_ediv_of_nonneg (by decide)]
  exact Int.ediv_le_self _ (by decide)
 exact qi7 (by rw [e];simp [qm7];omega)
def ProdEnds (a b:Int) (w:World) (e:Ending) (w':World):Prop:=∃n ok,e=.returned (.tuple #[.int .i64 n,.bool ok])∧ok=qm7 (a * b)∧(qm7 (a * b)=true→n=a * b)∧w'=w
theorem vr1 (a b:Int) (ha:Rng a) (hb:Rng b) (w:World):Calls Tryz.prog 260 #[.int .i64 a,.int .i64 b] w (ProdEnds a b w):=by
 unfold Rng at ha hb
 obtain ⟨ha1,ha2⟩:=ha
 obtain ⟨hb1,hb2⟩:=hb
 by_cases h0:a=0∨b=0
 ·by_cases ha0:a=0
  ·subst ha0
   clear h0
   go_enter Tryz.func260,Tryz.ntmps260
   go_wp2_with fail
   go_ret2
   exact ⟨_,_,rfl,by rw [Int.zero_mul];rfl,fun _=>(Int.zero_mul b).symm,rfl⟩
  ·have hb0:b=0:=by omega
   subst hb0
   clear h0
   go_enter Tryz.func260,Tryz.ntmps260
   go_wp2_with fail
   go_ret2
   exact ⟨_,_,rfl,by rw [Int.mul_zero];rfl,fun _=>(Int.mul_zero a).symm,rfl⟩
 have a0:(a==0)=false:=beq_eq_false_iff_ne.2 (by omega)
 have b0:(b==0)=false:=beq_eq_false_iff_ne.2 (by omega)
 by_cases am:a=-1
 ·subst am
  have e:-1 * b=-b:=by omega
  by_cases bl:b=-9223372036854775808
  ·subst bl
   go_enter Tryz.func260,Tryz.ntmps260
   go_wp2_with fail
   go_ret2
   exact ⟨_,_,rfl,rfl,(fun h=>absurd h (by decide)),rfl⟩
  ·have bl':(b != -9223372036854775808)=true:=by simpa using bl
   have HE:=v7 e
   have Hf:Hid (qm7 (-b)=true):=v7 (by simp [qm7];omega)
   clear h0 e
   go_enter Tryz.func260,Tryz.ntmps260
   go_wp2_with fail
   go_ret2
   exact ⟨_,_,rfl,by rw [q9 HE,q9 Hf],fun _=>by rw [q9 HE],rfl⟩
 have am':(a==-1)=false:=beq_eq_false_iff_ne.2 am
 by_cases bm:b=-1
 ·subst bm
  have e:a * -1=-a:=by omega
  by_cases al:a=-9223372036854775808
  ·subst al
   go_enter Tryz.func260,Tryz.ntmps260
   go_wp2_with fail
   go_ret2
   exact ⟨_,_,rfl,rfl,(fun h=>absurd h (by decide)),rfl⟩
  ·have al':(a != -9223372036854775808)=true:=by simpa using al
   have HE:=v7 e
   have Hf:Hid (qm7 (-a)=true):=v7 (by simp [qm7];omega)
   clear h0 e
   go_enter Tryz.func260,Tryz.ntmps260
   go_wp2_with fail
   go_ret2
   exact ⟨_,_,rfl,by rw [q9 HE,q9 Hf],fun _=>by rw [q9 HE],rfl⟩
 have bm':(b==-1)=false:=beq_eq_false_iff_ne.2 bm
 have HF:Hid (qm7 (a * b)=true→wrap64 (a * b)=a * b):=v7 fun h=>qi7 h
 by_cases ap:0<a
 ·by_cases bp:0<b
  ·have hf:=fit_pos ap bp
   rw [Int.tdiv_eq_ediv_of_nonneg (by decide)] at hf
   have HQ:=v7 hf
   clear hf h0
   go_enter Tryz.func260,Tryz.ntmps260
   go_wp2_with fail
   go_ret2
   exact ⟨_,_,rfl,q9 HQ,q9 HF,rfl⟩
  ·have hf:=vn8 ap (show b<0 by omega)
   rw [←vg0 ap] at hf
   have HQ:=v7 hf
   clear hf h0
   go_enter Tryz.func260,Tryz.ntmps260
   go_wp2_with fail
   go_ret2
   exact ⟨_,_,rfl,q9 HQ,q9 HF,rfl⟩
 ·have an:a<0:=by omega
  by_cases bp:0<b
  ·have hf:=vn8 bp an
   rw [←vg0 bp,Int.mul_comm] at hf
   have HQ:=v7 hf
   clear hf h0
   go_enter Tryz.func260,Tryz.ntmps260
   go_wp2_with fail
   go_ret2
   exact ⟨_,_,rfl,q9 HQ,q9 HF,rfl⟩
  ·have bn:b<0:=by omega
   have hf:=fit_neg an bn
   rw [←wrap_most (show b<0 by omega)] at hf
   have HQ:=v7 hf
   clear hf h0
   go_enter Tryz.func260,Tryz.ntmps260
   go_wp2_with fail
   go_ret2
   exact ⟨_,_,rfl,q9 HQ,q9 HF,rfl⟩
end
section
theorem qm3 (op:ByteArray) (x y:V) (h:qg4 x y=false) (w:World):Calls Tryz.prog 219 #[.string op,vV x,vV y] w fun e w'=>e=.returned (vV nV)∧Below w.heap.size w w':=by
 conv=>arg 3;simp only [vV]
 by_cases hx:x.kind=2
 ·have hx':(x.kind != 2)=false:=by simp [hx]
  have hy':(y.kind != 2)=true:=by unfold qg4 at h;simp [hx] at h;simpa using h
  clear hx h
  go_enter Tryz.func219,Tryz.ntmps219
  go_wp2_with fail
  refine bodyPost_ret (by simp [results,Tryz.results219,go_sem]<;>first|rfl|exact ⟨rfl,rfl,rfl⟩) rfl ⟨rfl, ?_⟩
  repeat' (first|exact x4 _ _ _ _|refine Below.setCell ?_ (by simp) _)
 ·have hx':(x.kind != 2)=true:=by simpa using hx
  clear hx h
  go_enter Tryz.func219,Tryz.ntmps219
  go_wp2_with fail
  refine bodyPost_ret (by simp [results,Tryz.results219,go_sem]<;>first|rfl|exact ⟨rfl,rfl,rfl⟩) rfl ⟨rfl, ?_⟩
  repeat' (first|exact x4 _ _ _ _|refine Below.setCell ?_ (by simp) _)
theorem qv9 (x y:V):qg4 y x=qg4 x y:=by unfold qg4;exact Bool.and_comm _ _
theorem reck_lt (x y:V) (w:World):Calls Tryz.prog 219 #[.string ⟨#[60]⟩,vV x,vV y] w fun e w'=>e=.returned (vV (qp0 x y))∧Below w.heap.size w w':=by
 cases h:qg4 x y with
 | false=>
  have e:qp0 x y=nV:=by unfold qp0;rw [h];rfl
  rw [e]
  exact qm3 _ x y h w
 | true=>
  have e:qp0 x y=bV (decide (x.num<y.num)):=by unfold qp0;rw [h];rfl
  rw [e]
  have hx':(x.kind != 2)=false:=by unfold qg4 at h;simp at h;simp [h.1]
  have hy':(y.kind != 2)=false:=by unfold qg4 at h;simp at h;simp [h.2]
  clear e h
  conv=>arg 3;simp only [vV]
  go_enter Tryz.func219,Tryz.ntmps219
  go_wp2_with (go_at_call 132;refine (j8 _ _).mono ?_;rintro e w' ⟨rfl,hb⟩;obtain ⟨hc,hf⟩:=v9 hb;have hz:w.heap.size+2<w'.heap.size:=(by have:=hb.size;simp at this;omega);have hB:Below w.heap.size w w':=(by first|exact v8 (x4 _ _ _ _) hb|exact v8 (by assumption) hb);clear hb;simp only [vV])
  refine bodyPost_ret (by simp [results,Tryz.results219,go_sem, *]<;>rfl) rfl ⟨rfl, ?_⟩
  exact (((hB.setCell (by simp;omega) _).setCell (by simp;omega) _).setCell (by simp;omega) _)
theorem reck_le (x y:V) (w:World):Calls Tryz.prog 219 #[.string ⟨#[60,61]⟩,vV x,vV y] w fun e w'=>e=.returned (vV (leV x y))∧Below w.heap.size w w':=by
 cases h:qg4 x y with
 | false=>
  have e:leV x y=nV:=by unfold leV;rw [h];rfl
  rw [e]
  exact qm3 _ x y h w
 | true=>
  have e:leV x y=bV (decide (x.num≤y.num)):=by unfold leV;rw [h];rfl
  rw [e]
  have hx':(x.kind != 2)=false:=by unfold qg4 at h;simp at h;simp [h.1]
  have hy':(y.kind != 2)=false:=by unfold qg4 at h;simp at h;simp [h.2]
  clear e h
  conv=>arg 3;simp only [vV]
  go_enter Tryz.func219,Tryz.ntmps219
  go_wp2_with (go_at_call 132;refine (j8 _ _).mono ?_;rintro e w' ⟨rfl,hb⟩;obtain ⟨hc,hf⟩:=v9 hb;have hz:w.heap.size+2<w'.heap.size:=(by have:=hb.size;simp at this;omega);have hB:Below w.heap.size w w':=(by first|exact v8 (x4 _ _ _ _) hb|exact v8 (by assumption) hb);clear hb;simp only [vV])
  refine bodyPost_ret (by simp [results,Tryz.results219,go_sem, *]<;>rfl) rfl ⟨rfl, ?_⟩
  exact (((hB.setCell (by simp;omega) _).setCell (by simp;omega) _).setCell (by simp;omega) _)
theorem reck_gt (x y:V) (w:World):Calls Tryz.prog 219 #[.string ⟨#[62]⟩,vV x,vV y] w fun e w'=>e=.returned (vV (qp0 y x))∧Below w.heap.size w w':=by
 cases h:qg4 x y with
 | false=>
  have e:qp0 y x=nV:=by unfold qp0;rw [qv9,h];rfl
  rw [e]
  exact qm3 _ x y h w
 | true=>
  have e:qp0 y x=bV (decide (y.num<x.num)):=by unfold qp0;rw [qv9,h];rfl
  rw [e]
  have hx':(x.kind != 2)=false:=by unfold qg4 at h;simp at h;simp [h.1]
  have hy':(y.kind != 2)=false:=by unfold qg4 at h;simp at h;simp [h.2]
  clear e h
  conv=>arg 3;simp only [vV]
  go_enter Tryz.func219,Tryz.ntmps219
  go_wp2_with (go_at_call 132;refine (j8 _ _).mono ?_;rintro e w' ⟨rfl,hb⟩;obtain ⟨hc,hf⟩:=v9 hb;have hz:w.heap.size+2<w'.heap.size:=(by have:=hb.size;simp at this;omega);have hB:Below w.heap.size w w':=(by first|exact v8 (x4 _ _ _ _) hb|exact v8 (by assumption) hb);clear hb;simp only [vV])
  refine bodyPost_ret (by simp [results,Tryz.results219,go_sem, *]<;>rfl) rfl ⟨rfl, ?_⟩
  exact (((hB.setCell (by simp;omega) _).setCell (by simp;omega) _).setCell (by simp;omega) _)
theorem reck_ge (x y:V) (w:World):Calls Tryz.prog 219 #[.string ⟨#[62,61]⟩,vV x,vV y] w fun e w'=>e=.returned (vV (leV y x))∧Below w.heap.size w w':=by
 cases h:qg4 x y with
 | false=>
  have e:leV y x=nV:=by unfold leV;rw [qv9,h];rfl
  rw [e]
  exact qm3 _ x y h w
 | true=>
  have e:leV y x=bV (decide (y.num≤x.num)):=by unfold leV;rw [qv9,h];rfl
  rw [e]
  have hx':(x.kind != 2)=false:=by unfold qg4 at h;simp at h;simp [h.1]
  have hy':(y.kind != 2)=false:=by unfold qg4 at h;simp at h;simp [h.2]
  clear e h
  conv=>arg 3;simp only [vV]
  go_enter Tryz.func219,Tryz.ntmps219
  go_wp2_with (go_at_call 132;refine (j8 _ _).mono ?_;rintro e w' ⟨rfl,hb⟩;obtain ⟨hc,hf⟩:=v9 hb;have hz:w.heap.size+2<w'.heap.size:=(by have:=hb.size;simp at this;omega);have hB:Below w.heap.size w w':=(by first|exact v8 (x4 _ _ _ _) hb|exact v8 (by assumption) hb);clear hb;simp only [vV])
  refine bodyPost_ret (by simp [results,Tryz.results219,go_sem, *]<;>rfl) rfl ⟨rfl, ?_⟩
  exact (((hB.setCell (by simp;omega) _).setCell (by simp;omega) _).setCell (by simp;omega) _)
end
end Go.Proofs.YtfkcaldjphakpaaGreatDoor
