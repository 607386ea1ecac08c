/- Patterns: plain; what cut is to answer. cut and Valid. Contracts of package value: sums, differences, products, quotients. Contracts of package value: products and quotients. Contracts of package value: Multiply, Divide. Contracts of package events: has, Find. digits. Contracts of package events: validName, validValue. The contract of events.Valid. -/
import Derived.Test.YtfkcaldjphakpabGreatDoorF02
import Derived.Deep.QuietTactic
import Derived.BigQuiet
import Derived.Test.YtfkcaldjphakpabGreatDoorF01
import Derived.Laws.IdiomStrings
import Derived.Laws.Concat
import Derived.Deep.RegionWith
set_option maxHeartbeats 1000000
set_option maxRecDepth 100000
namespace Go.Proofs.YtfkcaldjphakpabGreatDoor
open Go.RowKit
section
structure Pc where
 kind:Int
 c:UInt8
def pcV (p:Pc):Value:=.agg #[.int .i64 p.kind,.int .u8 p.c.toNat]
def qy2 (c:UInt8):Pc:=if ((c.toNat:Int)==37)=true then ⟨2,0⟩ else if ((c.toNat:Int)==95)=true then ⟨1,0⟩ else ⟨0,c⟩
theorem jd1 (c:UInt8) (w:World) :
  Calls Tryz.prog 228 #[.int .u8 c.toNat] w fun e w'=>e=.returned (pcV (qy2 c))∧Below w.heap.size w w':=by
 unfold qy2
 cases h1:((c.toNat:Int)==37)
 ·cases h2:((c.toNat:Int)==95)
  ·simp only [Bool.false_eq_true,if_false]
   go_enter Tryz.func228,Tryz.ntmps228
   go_wp2_with fail
   refine bodyPost_ret (by simp [results,Tryz.results228,go_sem];rfl) rfl ⟨rfl,(Below.refl _ _).alloc (Nat.le_refl _) _⟩
  ·simp only [Bool.false_eq_true,if_false,if_true]
   go_enter Tryz.func228,Tryz.ntmps228
   go_wp2_with fail
   refine bodyPost_ret (by simp [results,Tryz.results228,go_sem];rfl) rfl ⟨rfl,(Below.refl _ _).alloc (Nat.le_refl _) _⟩
 ·simp only [if_true]
  go_enter Tryz.func228,Tryz.ntmps228
  go_wp2_with fail
  refine bodyPost_ret (by simp [results,Tryz.results228,go_sem];rfl) rfl ⟨rfl,(Below.refl _ _).alloc (Nat.le_refl _) _⟩
def qx4 (e:List UInt8):List UInt8→Option (List Pc)
 | []=>some []
 | [c]=>if e.head?=some c then none else some [qy2 c]
 | c::d::t=>if e.head?=some c then (qx4 e t).map (⟨0,d⟩::·) else (qx4 e (d::t)).map (qy2 c::·)
theorem jv4 {e p:List UInt8} {k:Nat} {c:UInt8} (h:p[k]?=some c) (hn:¬e.head?=some c):qx4 e (p.drop k)=(qx4 e (p.drop (k+1))).map (qy2 c::·):=by
 obtain ⟨hk,he⟩:=List.getElem?_eq_some_iff.1 h
 rw [List.drop_eq_getElem_cons hk,he]
 cases hd:p.drop (k+1) with
 | nil=>show (if e.head?=some c then none else some [qy2 c])=_;rw [if_neg hn];rfl
 | cons d t=>rw [qx4,if_neg hn]
theorem cutL_esc {e p:List UInt8} {k:Nat} {c d:UInt8} (h:p[k]?=some c) (hn:e.head?=some c) (h2:p[k+1]?=some d):qx4 e (p.drop k)=(qx4 e (p.drop (k+2))).map (⟨0,d⟩::·):=by
 obtain ⟨hk,he⟩:=List.getElem?_eq_some_iff.1 h
 obtain ⟨hk2,he2⟩:=List.getElem?_eq_some_iff.1 h2
 rw [List.drop_eq_getElem_cons hk,he,List.drop_eq_getElem_cons hk2,he2,qx4,if_pos hn]
theorem cutL_last {e p:List UInt8} {k:Nat} {c:UInt8} (h:p[k]?=some c) (hn:e.head?=some c) (h2:p.length≤k+1):qx4 e (p.drop k)=none:=by
 obtain ⟨hk,he⟩:=List.getElem?_eq_some_iff.1 h
 rw [List.drop_eq_getElem_cons hk,he,List.drop_of_length_le h2,qx4,if_pos hn]
theorem cutL_end {e p:List UInt8} {k:Nat} (h:p.length≤k):qx4 e (p.drop k)=some []:=by
 rw [List.drop_of_length_le h,qx4]
def qp9 (ps:List Pc):List Value:=ps.flatMap fun p=>[.int .i64 p.kind,.int .u8 p.c.toNat]
theorem jc9 (ps:List Pc) (p:Pc):qp9 (ps++[p])=qp9 ps++[.int .i64 p.kind,.int .u8 p.c.toNat]:=by simp [qp9]
end
section
theorem jx3:(Tryz.prog.info? 257).map (fun i=>(i.zero,i.size,i.bytes))=some (some (.agg #[.int .i64 0,.int .u8 0]),2,16):=by kernel_rfl
def CutEnds (w:World) (r:Option (List Pc)) (e:Ending) (w':World):Prop:=
 Below w.heap.size w w'∧match r with
 | none=>e=.returned (.tuple #[.slice none 0 0,.bool false])
 | some ps=>∃v,e=.returned (.tuple #[v,.bool true])∧w'.ownsRow w.heap.size 257 2 v ps.length (qp9 ps)
theorem qf0 {base e size n B:Nat} {w w':World} {v:Value} {xs:List Value} (h:w.ownsRow base e size v n xs) (hb:Below B w w') (hB:w.heap.size≤B):w'.ownsRow base e size v n xs:=by
 refine ⟨h.1, ?_⟩
 rcases h.2 with hn|⟨g,cap,cur,rfl,hbg,hgg,rest⟩
 ·exact .inl hn
 ·refine .inr ⟨g,cap,cur,rfl,hbg, ?_,rest⟩
  rw [hb.block g (by have:=(Array.getElem?_eq_some_iff.1 hgg).1;omega)]
  exact hgg
theorem jk8 {base e size n:Nat} {w:World} {v:Value} {xs:List Value} (h:w.ownsRow base e size v n xs):∀k,v.ownBlock=some k→base≤k:=fun k hk=>(h.lt k hk).1
theorem Below.grown {B:Nat} {a w w':World} {row:Option Nat} (h:Below B a w) (hg:w.grownBy w' row) (hB:B≤w.heap.size) (hrow:∀k,row=some k→B≤k):Below B a w':=
 ⟨hg.os.trans h.os,hg.tape.trans h.tape,hg.output.trans h.output,Nat.le_trans h.size hg.size,fun k hk=>(hg.block k (by omega) (fun e=>by have:=hrow k e.symm;omega)).trans (h.block k hk)⟩
theorem vv3 {w wr w1 w2:World} {e:Nat} {v v':Value} {ps:List Pc} {q:Pc} {o:Obj} (hown':w2.ownsRow w.heap.size e 2 v' (ps.length+1) (qp9 ps++[.int .i64 q.kind,.int .u8 q.c.toNat])) (hgrow:(w1.alloc o).grownBy w2 v.ownBlock)
  (hown1:w1.ownsRow w.heap.size e 2 v ps.length (qp9 ps)) (hbel:Below w.heap.size w wr) (hb1:Below wr.heap.size wr w1) :
  w2.ownsRow w.heap.size e 2 v' (ps++[q]).length (qp9 (ps++[q]))∧Below w.heap.size w w2:=by
 have h1:=hbel.size
 have h2:=hb1.size
 refine ⟨by rw [jc9,List.length_append];exact hown', ?_⟩
 exact Below.grown ((v8 hbel hb1).alloc (by omega) o) hgrow (by simp;omega) (jk8 hown1)
theorem jg7 (p e:ByteArray) (hp:p.size≤200) (w:World) :
  Calls Tryz.prog 195 #[.string p,.string e] w (CutEnds w (qx4 e.data.toList p.data.toList)):=by
 obtain ⟨R,hR⟩:∃r,qx4 e.data.toList p.data.toList=r:=⟨_,rfl⟩
 rw [hR]
 have HR:=v7 hR
 clear hR
 obtain ⟨i0,hi,hz0,hz1',hz2'⟩:=info_parts jx3
 go_enter Tryz.func195,Tryz.ntmps195
 go_wp2_with fail
 go_loopw [6,7] (fun v i wr=>∃(k:Nat) (ps:List Pc),k≤p.size∧ps.length≤k∧i=.int .i64 k∧Hid (R=(qx4 e.data.toList (p.data.toList.drop k)).map (ps++·))∧wr.ownsRow w.heap.size 257 2 v ps.length (qp9 ps)∧Below w.heap.size w wr) (fun _ i _=>p.size - (intOf i).toNat)
 case atStart=>exact ⟨0,[],Nat.zero_le _,Nat.zero_le _,rfl,v7 (by rw [List.drop_zero,q9 HR];cases R<;>rfl),World.ownsRow_nil _ _ _ _,Below.refl _ _⟩
 case round=>
  obtain ⟨k,ps,hk,hpk,rfl,hh,hown,hbel⟩:=hrel
  have hbz:=hbel.size
  by_cases hlt:k<p.size
  ·have hpe:p.data.toList[k]?=some p[k]:=by rw [List.getElem?_eq_getElem (by rw [qb0];exact hlt),qc6 p k hlt]
   have plainCase:¬e.data.toList.head?=some p[k]→Hid (R=(qx4 e.data.toList (p.data.toList.drop (k+1))).map ((ps++[qy2 p[k]])++·)):=fun hn=>v7 (by rw [q9 hh,jv4 hpe hn];cases qx4 e.data.toList (p.data.toList.drop (k+1))<;>simp)
   by_cases he:0<e.size
   ·have hne:=je9 he
    have hhd:e.data.toList.head?=some e[0]:=by
     have:=List.getElem?_eq_getElem (l:=e.data.toList) (i:=0) (by rw [qb0];exact he)
     rw [qc6 e 0 he] at this
     rw [List.head?_eq_getElem?];exact this
    cases hx:(p[k]==e[0]) with
    | false=>
     have HT:=plainCase (by rw [hhd];intro h;injection h with h;rw [h] at hx;simp at hx)
     have hx':((p[k].toNat:Int)==(e[0].toNat:Int))=false:=by rw [vp3];exact hx
     clear plainCase hh hpe hhd hx
     go_wp2_with fail
     go_quiet (fail)
     go_wp2_with (first|(go_at_call 228;refine (jd1 p[k] _).mono ?_;rintro en w1 ⟨rfl,hb1'⟩;have hb1:Below wr.heap.size wr w1:=(below_drewN (Below.refl _ wr) _).trans hb1';clear hb1';have hz1:=hb1.size;have hown1:=qf0 hown hb1 (Nat.le_refl _);simp only [pcV])|(at_builtin;refine wpList_append_own _ rfl _ _ 251 rfl w.heap.size 257 i0 (.agg #[.int .i64 0,.int .u8 0]) 2 16 Tryz.underlying251 hi hz0 hz1' hz2' rfl (by decide) _ _ _ rfl (hown1.alloc _) ⟨w1.heap.size,0,none⟩ 1 1 [.int .i64 (qy2 p[k]).kind,.int .u8 (qy2 p[k]).c.toNat] rfl rfl ?c1 ?c2 ?c3 ?c4 ?c5 ?_))
     case c1=>
      intro j u hj
      match j,hj with
      | 0,hj=>simp at hj;subst hj;simp [Addr.add]
      | 1,hj=>simp at hj;subst hj;simp [Addr.add]
      | j+2,hj=>simp at hj
     case c2=>intro u hu;simp at hu;rcases hu with rfl|rfl<;>rfl
     case c3=>unfold maxLen;omega
     case c4=>omega
     case c5=>simp;omega
     ·intro v' w2 hown' hgrow _
      have R:=vv3 hown' hgrow hown1 hbel hb1
      clear hown' hgrow hown hown1
      go_wp2
      go_roundw
      case rel=>exact ⟨k+1,_,by omega,by simp;omega,by go_num,HT,R.1,R.2⟩
      case measure=>simp [intOf];omega
    | true=>
     have hxe:e.data.toList.head?=some p[k]:=by rw [hhd,beq_iff_eq.1 hx]
     have hx':((p[k].toNat:Int)==(e[0].toNat:Int))=true:=by rw [vp3];exact hx
     by_cases hl:k+1<p.size
     ·have hpe2:p.data.toList[k+1]?=some p[k+1]:=by rw [List.getElem?_eq_getElem (by rw [qb0];exact hl),qc6 p (k+1) hl]
      have HT:Hid (R=(qx4 e.data.toList (p.data.toList.drop (k+2))).map ((ps++[⟨0,p[k+1]⟩])++·)):=v7 (by rw [q9 hh,cutL_esc hpe hxe hpe2];cases qx4 e.data.toList (p.data.toList.drop (k+2))<;>simp)
      clear plainCase hh hpe hhd hx hpe2 hxe
      have hnl:(((k:Int)+1)==(p.size:Int))=false:=beq_eq_false_iff_ne.2 (by omega)
      go_wp2_with fail
      go_quiet (fail)
      have hown1:=qf0 hown (below_drewN (Below.refl _ wr) nq) (Nat.le_refl _)
      go_wp2_with (first|(at_builtin;refine wpList_append_own _ rfl _ _ 251 rfl w.heap.size 257 i0 (.agg #[.int .i64 0,.int .u8 0]) 2 16 Tryz.underlying251 hi hz0 hz1' hz2' rfl (by decide) _ _ _ rfl (hown1.alloc _) ⟨wr.heap.size,0,none⟩ 1 1 [.int .i64 0,.int .u8 p[k+1].toNat] rfl rfl ?c1 ?c2 ?c3 ?c4 ?c5 ?_))
      case c1=>
       intro j u hj
       match j,hj with
       | 0,hj=>simp at hj;subst hj;simp [Addr.add];exact (World.cell?_alloc_at (w:=wr.drewN nq) _ _ _ _ rfl).trans rfl
       | 1,hj=>simp at hj;subst hj;simp [Addr.add];exact (World.cell?_alloc_at (w:=wr.drewN nq) _ _ _ _ rfl).trans rfl
       | j+2,hj=>simp at hj
      case c2=>intro u hu;simp at hu;rcases hu with rfl|rfl<;>rfl
      case c3=>unfold maxLen;omega
      case c4=>omega
      case c5=>simp;omega
      ·intro v' w2 hown' hgrow _
       have R:=vv3 (q:=⟨0,p[k+1]⟩) hown' hgrow hown1 hbel (below_drewN (Below.refl _ wr) nq)
       clear hown' hgrow hown hown1
       go_wp2
       go_roundw
       case rel=>exact ⟨k+2,_,by omega,by simp;omega,by go_num,HT,R.1,R.2⟩
       case measure=>simp [intOf];omega
     ·have HT:Hid (R=none):=v7 (by rw [q9 hh,cutL_last hpe hxe (by rw [qb0];omega)];rfl)
      clear plainCase hh hpe hhd hx hxe
      have hnl:(((k:Int)+1)==(p.size:Int))=true:=beq_iff_eq.2 (by omega)
      go_wp2_with fail
      go_quiet (fail)
      go_wp2_with fail
      go_ret2
      rw [q9 HT]
      exact ⟨below_drewN hbel _,rfl⟩
   ·have hee:e=⟨#[]⟩:=by cases e with|mk d=>simp [ByteArray.size] at he;simp [he]
    subst hee
    have HT:=plainCase (by simp)
    clear plainCase hh hpe he
    go_wp2_with fail
    go_quiet (fail)
    go_wp2_with (first|(go_at_call 228;refine (jd1 p[k] _).mono ?_;rintro en w1 ⟨rfl,hb1'⟩;have hb1:Below wr.heap.size wr w1:=(below_drewN (Below.refl _ wr) _).trans hb1';clear hb1';have hz1:=hb1.size;have hown1:=qf0 hown hb1 (Nat.le_refl _);simp only [pcV])|(at_builtin;refine wpList_append_own _ rfl _ _ 251 rfl w.heap.size 257 i0 (.agg #[.int .i64 0,.int .u8 0]) 2 16 Tryz.underlying251 hi hz0 hz1' hz2' rfl (by decide) _ _ _ rfl (hown1.alloc _) ⟨w1.heap.size,0,none⟩ 1 1 [.int .i64 (qy2 p[k]).kind,.int .u8 (qy2 p[k]).c.toNat] rfl rfl ?c1 ?c2 ?c3 ?c4 ?c5 ?_))
    case c1=>
     intro j u hj
     match j,hj with
     | 0,hj=>simp at hj;subst hj;simp [Addr.add]
     | 1,hj=>simp at hj;subst hj;simp [Addr.add]
     | j+2,hj=>simp at hj
    case c2=>intro u hu;simp at hu;rcases hu with rfl|rfl<;>rfl
    case c3=>unfold maxLen;omega
    case c4=>omega
    case c5=>simp;omega
    ·intro v' w2 hown' hgrow _
     have R:=vv3 hown' hgrow hown1 hbel hb1
     clear hown' hgrow hown hown1
     go_wp2
     go_roundw
     case rel=>exact ⟨k+1,_,by omega,by simp;omega,by go_num,HT,R.1,R.2⟩
     case measure=>simp [intOf];omega
  ·have HT:Hid (R=some ps):=v7 (by rw [q9 hh,cutL_end (by rw [qb0];omega)];simp)
   clear hh
   go_wp2_with fail
   go_ret2
   rw [q9 HT]
   exact ⟨hbel,_,rfl,hown⟩
theorem valid_any (p e:ByteArray) (hp:p.size≤200) (w:World) :
  Calls Tryz.prog 318 #[.string p,.string e] w fun en w'=>en=.returned (.bool (qx4 e.data.toList p.data.toList).isSome)∧Below w.heap.size w w':=by
 cases hc:qx4 e.data.toList p.data.toList with
 | none=>
  have HC:=v7 hc
  clear hc
  go_enter Tryz.func318,Tryz.ntmps318
  go_wp2_with (go_at_call 195;refine (jg7 p e hp _).mono ?_;rintro en w1 ⟨hb1,h1⟩;rw [q9 HC] at h1;subst h1)
  go_ret
  exact ⟨rfl,hb1⟩
 | some ps=>
  have HC:=v7 hc
  clear hc
  go_enter Tryz.func318,Tryz.ntmps318
  go_wp2_with (go_at_call 195;refine (jg7 p e hp _).mono ?_;rintro en w1 ⟨hb1,h1⟩;rw [q9 HC] at h1;obtain ⟨v,rfl,hown⟩:=h1;clear hown)
  go_ret
  exact ⟨rfl,hb1⟩
end
section
def vs4 (n:Int):Bool:=decide (-9223372036854775808≤n)&&decide (n≤9223372036854775807)
def Rng (n:Int):Prop:=-9223372036854775808≤n∧n≤9223372036854775807
def addV (x y:V):V:=if vc1 x y&&vs4 (x.num+y.num) then iV (x.num+y.num) else nV
def subV (x y:V):V:=if vc1 x y&&vs4 (x.num - y.num) then iV (x.num - y.num) else nV
def mulV (x y:V):V:=if vc1 x y&&vs4 (x.num * y.num) then iV (x.num * y.num) else nV
def divV (x y:V):V:=if vc1 x y&&!(y.num==0)&&vs4 (x.num.tdiv y.num) then iV (x.num.tdiv y.num) else nV
theorem vi2 {n:Int} (h:vs4 n=true):wrap64 n=n:=by
 simp [vs4] at h;unfold wrap64;omega
theorem add_test {a b:Int} (ha:Rng a) (hb:Rng b):((decide (wrap64 (a+b)<a)) != (decide (b<0)))=!vs4 (a+b):=by
 unfold Rng at ha hb
 rw [Bool.eq_iff_iff]
 simp [vs4,wrap64]
 omega
theorem sub_test {a b:Int} (ha:Rng a) (hb:Rng b):((decide (a<wrap64 (a - b))) != (decide (b<0)))=!vs4 (a - b):=by
 unfold Rng at ha hb
 rw [Bool.eq_iff_iff]
 simp [vs4,wrap64]
 omega
theorem jt8 (x y:V) (hx:Rng x.num) (hy:Rng y.num) (w:World) :
  Calls Tryz.prog 154 #[vV x,vV y] w fun e w'=>e=.returned (vV (addV x y))∧Below w.heap.size w w':=by
 have ht:=add_test hx hy
 simp only [bne] at ht
 unfold addV
 cases hk:vc1 x y with
 | true=>
  have HK:=v7 hk
  clear hk
  cases hf:vs4 (x.num+y.num) with
  | true=>
   rw [hf] at ht
   simp only [Bool.not_true] at ht
   have HW:=v7 (vi2 hf)
   clear hf
   simp only [Bool.and_self,if_true]
   conv=>arg 3;simp only [vV]
   go_enter Tryz.func154,Tryz.ntmps154
   go_wp2_with (first|(go_at_call 197;refine (x8 x y _).mono ?_;rintro e w1 ⟨rfl,hb1⟩;rw [q9 HK];obtain ⟨hc1,hf1⟩:=j6 hb1;have hz1:w.heap.size+2<w1.heap.size:=(by have:=hb1.size;simp at this;omega))|(go_at_call 103;rw [q9 HW];refine (qq8 _ _).mono ?_;rintro e w2 ⟨rfl,hb2⟩;obtain ⟨hc2,hf2⟩:=j6 hb2;simp only [vV]))
   refine bodyPost_ret (by simp [results,Tryz.results154,go_sem,hc2,hc1,hz1]<;>rfl) rfl ⟨rfl, ?_⟩
   exact ((((v8 (v8 (qb3 _ _ _ _) hb1) hb2).setCell (by simp;omega) _).setCell (by simp;omega) _).setCell (by simp;omega) _)
  | false=>
   rw [hf] at ht
   simp only [Bool.not_false] at ht
   clear hf
   simp only [Bool.and_false,Bool.false_eq_true,if_false]
   conv=>arg 3;simp only [vV]
   go_enter Tryz.func154,Tryz.ntmps154
   go_wp2_with (first|(go_at_call 197;refine (x8 x y _).mono ?_;rintro e w1 ⟨rfl,hb1⟩;rw [q9 HK];obtain ⟨hc1,hf1⟩:=j6 hb1;have hz1:w.heap.size+2<w1.heap.size:=(by have:=hb1.size;simp at this;omega))|(go_at_call 146;refine (qd1 _).mono ?_;rintro e w2 ⟨rfl,hb2⟩;obtain ⟨hc2,hf2⟩:=j6 hb2;simp only [vV]))
   refine bodyPost_ret (by simp [results,Tryz.results154,go_sem,hc2,hc1,hz1]<;>rfl) rfl ⟨rfl, ?_⟩
   exact ((((v8 (v8 (qb3 _ _ _ _) hb1) hb2).setCell (by simp;omega) _).setCell (by simp;omega) _).setCell (by simp;omega) _)
 | false=>
  have HK:=v7 hk
  clear hk ht
  simp only [Bool.false_and,Bool.false_eq_true,if_false]
  conv=>arg 3;simp only [vV]
  go_enter Tryz.func154,Tryz.ntmps154
  go_wp2_with (first|(go_at_call 197;refine (x8 x y _).mono ?_;rintro e w1 ⟨rfl,hb1⟩;rw [q9 HK];obtain ⟨hc1,hf1⟩:=j6 hb1;have hz1:w.heap.size+2<w1.heap.size:=(by have:=hb1.size;simp at this;omega))|(go_at_call 146;refine (qd1 _).mono ?_;rintro e w2 ⟨rfl,hb2⟩;obtain ⟨hc2,hf2⟩:=j6 hb2;simp only [vV]))
  refine bodyPost_ret (by simp [results,Tryz.results154,go_sem,hc2,hc1,hz1]<;>rfl) rfl ⟨rfl, ?_⟩
  exact ((((v8 (v8 (qb3 _ _ _ _) hb1) hb2).setCell (by simp;omega) _).setCell (by simp;omega) _).setCell (by simp;omega) _)
theorem vd9 (x y:V) (hx:Rng x.num) (hy:Rng y.num) (w:World) :
  Calls Tryz.prog 155 #[vV x,vV y] w fun e w'=>e=.returned (vV (subV x y))∧Below w.heap.size w w':=by
 have ht:=sub_test hx hy
 simp only [bne] at ht
 unfold subV
 cases hk:vc1 x y with
 | true=>
  have HK:=v7 hk
  clear hk
  cases hf:vs4 (x.num - y.num) with
  | true=>
   rw [hf] at ht
   simp only [Bool.not_true] at ht
   have HW:=v7 (vi2 hf)
   clear hf
   simp only [Bool.and_self,if_true]
   conv=>arg 3;simp only [vV]
   go_enter Tryz.func155,Tryz.ntmps155
   go_wp2_with (first|(go_at_call 197;refine (x8 x y _).mono ?_;rintro e w1 ⟨rfl,hb1⟩;rw [q9 HK];obtain ⟨hc1,hf1⟩:=j6 hb1;have hz1:w.heap.size+2<w1.heap.size:=(by have:=hb1.size;simp at this;omega))|(go_at_call 103;rw [q9 HW];refine (qq8 _ _).mono ?_;rintro e w2 ⟨rfl,hb2⟩;obtain ⟨hc2,hf2⟩:=j6 hb2;simp only [vV]))
   refine bodyPost_ret (by simp [results,Tryz.results155,go_sem,hc2,hc1,hz1]<;>rfl) rfl ⟨rfl, ?_⟩
   exact ((((v8 (v8 (qb3 _ _ _ _) hb1) hb2).setCell (by simp;omega) _).setCell (by simp;omega) _).setCell (by simp;omega) _)
  | false=>
   rw [hf] at ht
   simp only [Bool.not_false] at ht
   clear hf
   simp only [Bool.and_false,Bool.false_eq_true,if_false]
   conv=>arg 3;simp only [vV]
   go_enter Tryz.func155,Tryz.ntmps155
   go_wp2_with (first|(go_at_call 197;refine (x8 x y _).mono ?_;rintro e w1 ⟨rfl,hb1⟩;rw [q9 HK];obtain ⟨hc1,hf1⟩:=j6 hb1;have hz1:w.heap.size+2<w1.heap.size:=(by have:=hb1.size;simp at this;omega))|(go_at_call 146;refine (qd1 _).mono ?_;rintro e w2 ⟨rfl,hb2⟩;obtain ⟨hc2,hf2⟩:=j6 hb2;simp only [vV]))
   refine bodyPost_ret (by simp [results,Tryz.results155,go_sem,hc2,hc1,hz1]<;>rfl) rfl ⟨rfl, ?_⟩
   exact ((((v8 (v8 (qb3 _ _ _ _) hb1) hb2).setCell (by simp;omega) _).setCell (by simp;omega) _).setCell (by simp;omega) _)
 | false=>
  have HK:=v7 hk
  clear hk ht
  simp only [Bool.false_and,Bool.false_eq_true,if_false]
  conv=>arg 3;simp only [vV]
  go_enter Tryz.func155,Tryz.ntmps155
  go_wp2_with (first|(go_at_call 197;refine (x8 x y _).mono ?_;rintro e w1 ⟨rfl,hb1⟩;rw [q9 HK];obtain ⟨hc1,hf1⟩:=j6 hb1;have hz1:w.heap.size+2<w1.heap.size:=(by have:=hb1.size;simp at this;omega))|(go_at_call 146;refine (qd1 _).mono ?_;rintro e w2 ⟨rfl,hb2⟩;obtain ⟨hc2,hf2⟩:=j6 hb2;simp only [vV]))
  refine bodyPost_ret (by simp [results,Tryz.results155,go_sem,hc2,hc1,hz1]<;>rfl) rfl ⟨rfl, ?_⟩
  exact ((((v8 (v8 (qb3 _ _ _ _) hb1) hb2).setCell (by simp;omega) _).setCell (by simp;omega) _).setCell (by simp;omega) _)
end
section
theorem zb7 (p b:Int) (hb:b≠0):∃r,p=b * p.tdiv b+r∧r.natAbs<b.natAbs:=by
 refine ⟨p.tmod b,(Int.mul_tdiv_add_tmod p b).symm, ?_⟩
 rw [Int.natAbs_tmod]
 exact Nat.mod_lt _ (Int.natAbs_pos.2 hb)
theorem vu3 (p b:Int) (hb1:b≠-1) (hp:Rng p):Rng (p.tdiv b):=by
 have h:=Int.natAbs_tdiv_le_natAbs p b
 unfold Rng at hp ⊢
 by_cases hm:p=-9223372036854775808
 ·by_cases h1:b=1
  ·rw [h1,Int.tdiv_one];exact hp
  ·by_cases h0:b=0
   ·rw [h0,Int.tdiv_zero];omega
   ·have h2:=Int.natAbs_tdiv p b
    have h3:p.natAbs.div b.natAbs≤p.natAbs / 2:=Nat.div_le_div_left (by omega) (by omega)
    omega
 ·omega
theorem vy6 {n:Int} (h:Rng n):wrap64 n=n:=by
 unfold Rng at h;unfold wrap64;omega
theorem jt2 (n:Int):Rng (wrap64 n):=by
 unfold Rng wrap64;omega
theorem vv9 (n:Int):vs4 n=true↔Rng n:=by simp [vs4,Rng]
theorem mul_test {a b:Int} (ha:Rng a) (hb:Rng b) (h0:b≠0) :
  ((a==-9223372036854775808&&b==-1)||!(wrap64 ((wrap64 (a * b)).tdiv b)==a))=!vs4 (a * b):=by
 cases hf:vs4 (a * b) with
 | true=>
  have hr:=(vv9 _).1 hf
  have e:wrap64 (a * b)=a * b:=vy6 hr
  have e2:(a * b).tdiv b=a:=Int.mul_tdiv_cancel a h0
  rw [e,e2,vy6 ha]
  have:¬(a=-9223372036854775808∧b=-1):=by
   rintro ⟨rfl,rfl⟩
   unfold Rng at hr;omega
  simp
  intro h1 h2
  exact this ⟨h1,h2⟩
 | false=>
  have hn:¬Rng (a * b):=fun h=>by rw [(vv9 _).2 h] at hf;cases hf
  by_cases h1:b=-1
  ·have:a=-9223372036854775808:=by
    subst h1;unfold Rng at hn ha;omega
   simp [h1,this]
  ·have hb1:=vu3 (wrap64 (a * b)) b h1 (jt2 _)
   rw [vy6 hb1]
   obtain ⟨r,hr,hrb⟩:=zb7 (wrap64 (a * b)) b h0
   have:¬(wrap64 (a * b)).tdiv b=a:=by
    intro he
    rw [he,Int.mul_comm b a] at hr
    generalize a * b=m at *
    unfold Rng at *
    unfold wrap64 at hr
    omega
   simp [this]
theorem div_test {a b:Int} (ha:Rng a):(a==-9223372036854775808&&b==-1)=!vs4 (a.tdiv b):=by
 by_cases h1:b=-1
 ·subst h1
  have e:a.tdiv (-1)=-a:=by rw [Int.tdiv_neg,Int.tdiv_one]
  rw [e,Bool.eq_iff_iff];simp [vs4];unfold Rng at ha;omega
 ·have:=(vv9 _).2 (vu3 a b h1 ha)
  rw [this];simp;intro _;exact h1
end
section
theorem least_any (a b:Int) (w:World) :
  Calls Tryz.prog 198 #[.int .i64 a,.int .i64 b] w fun e w'=>e=.returned (.bool (a==-9223372036854775808&&b==-1))∧w'=w:=by
 go_enter Tryz.func198,Tryz.ntmps198
 go_wp2_with fail
 all_goals (go_ret;exact ⟨qe7 (by simp<;>omega),rfl⟩)
theorem qy1 {a b:Int} {v:Bool} (h:(a==-9223372036854775808&&b==-1)=v) (w:World) :
  Calls Tryz.prog 198 #[.int .i64 a,.int .i64 b] w fun e w'=>e=.returned (.bool v)∧w'=w:=by
 rw [←h];exact least_any a b w
theorem jp1 (x y:V) (hx:Rng x.num) (w:World) :
  Calls Tryz.prog 157 #[vV x,vV y] w fun e w'=>e=.returned (vV (divV x y))∧Below w.heap.size w w':=by
 have ht:=div_test (b:=y.num) hx
 unfold divV
 cases hk:vc1 x y with
 | true=>
  have HK:=v7 hk
  clear hk
  cases h0:(y.num==0) with
  | true=>
   clear ht
   simp only [Bool.not_true,Bool.and_false,Bool.false_and,Bool.false_eq_true,if_false]
   conv=>arg 3;simp only [vV]
   go_enter Tryz.func157,Tryz.ntmps157
   go_wp2_with (first|(go_at_call 197;refine (x8 x y _).mono ?_;rintro e w1 ⟨rfl,hb1⟩;rw [q9 HK];obtain ⟨hc1,hf1⟩:=j6 hb1;have hz1:w.heap.size+2<w1.heap.size:=(by have:=hb1.size;simp at this;omega))|(go_at_call 146;refine (qd1 _).mono ?_;rintro e w2 ⟨rfl,hb2⟩;obtain ⟨hc2,hf2⟩:=j6 hb2;simp only [vV]))
   refine bodyPost_ret (by simp [results,Tryz.results157,go_sem,hc2,hc1,hz1]<;>rfl) rfl ⟨rfl, ?_⟩
   exact ((((v8 (v8 (qb3 _ _ _ _) hb1) hb2).setCell (by simp;omega) _).setCell (by simp;omega) _).setCell (by simp;omega) _)
  | false=>
   have hy0:¬y.num=0:=by simpa using h0
   cases hf:vs4 (x.num.tdiv y.num) with
   | true=>
    rw [hf,Bool.not_true] at ht
    have HL:=v7 ht
    have HW:=v7 (vi2 hf)
    clear ht hf
    simp only [Bool.not_false,Bool.and_self,if_true]
    conv=>arg 3;simp only [vV]
    go_enter Tryz.func157,Tryz.ntmps157
    go_wp2_with (first|(go_at_call 197;refine (x8 x y _).mono ?_;rintro e w1 ⟨rfl,hb1⟩;rw [q9 HK];obtain ⟨hc1,hf1⟩:=j6 hb1;have hz1:w.heap.size+2<w1.heap.size:=(by have:=hb1.size;simp at this;omega))|(go_at_call 198;refine (qy1 (q9 HL) _).mono ?_;rintro e w3 ⟨rfl,rfl⟩)|(go_at_call 103;rw [q9 HW];refine (qq8 _ _).mono ?_;rintro e w2 ⟨rfl,hb2⟩;obtain ⟨hc2,hf2⟩:=j6 hb2;simp only [vV]))
    refine bodyPost_ret (by simp [results,Tryz.results157,go_sem,hc2,hc1,hz1]<;>rfl) rfl ⟨rfl, ?_⟩
    exact ((((v8 (v8 (qb3 _ _ _ _) hb1) hb2).setCell (by simp;omega) _).setCell (by simp;omega) _).setCell (by simp;omega) _)
   | false=>
    rw [hf,Bool.not_false] at ht
    have HL:=v7 ht
    clear ht hf
    simp only [Bool.and_false,Bool.false_eq_true,if_false]
    conv=>arg 3;simp only [vV]
    go_enter Tryz.func157,Tryz.ntmps157
    go_wp2_with (first|(go_at_call 197;refine (x8 x y _).mono ?_;rintro e w1 ⟨rfl,hb1⟩;rw [q9 HK];obtain ⟨hc1,hf1⟩:=j6 hb1;have hz1:w.heap.size+2<w1.heap.size:=(by have:=hb1.size;simp at this;omega))|(go_at_call 198;refine (qy1 (q9 HL) _).mono ?_;rintro e w3 ⟨rfl,rfl⟩)|(go_at_call 146;refine (qd1 _).mono ?_;rintro e w2 ⟨rfl,hb2⟩;obtain ⟨hc2,hf2⟩:=j6 hb2;simp only [vV]))
    refine bodyPost_ret (by simp [results,Tryz.results157,go_sem,hc2,hc1,hz1]<;>rfl) rfl ⟨rfl, ?_⟩
    exact ((((v8 (v8 (qb3 _ _ _ _) hb1) hb2).setCell (by simp;omega) _).setCell (by simp;omega) _).setCell (by simp;omega) _)
 | false=>
  have HK:=v7 hk
  clear hk ht
  simp only [Bool.false_and,Bool.false_eq_true,if_false]
  conv=>arg 3;simp only [vV]
  go_enter Tryz.func157,Tryz.ntmps157
  go_wp2_with (first|(go_at_call 197;refine (x8 x y _).mono ?_;rintro e w1 ⟨rfl,hb1⟩;rw [q9 HK];obtain ⟨hc1,hf1⟩:=j6 hb1;have hz1:w.heap.size+2<w1.heap.size:=(by have:=hb1.size;simp at this;omega))|(go_at_call 146;refine (qd1 _).mono ?_;rintro e w2 ⟨rfl,hb2⟩;obtain ⟨hc2,hf2⟩:=j6 hb2;simp only [vV]))
  refine bodyPost_ret (by simp [results,Tryz.results157,go_sem,hc2,hc1,hz1]<;>rfl) rfl ⟨rfl, ?_⟩
  exact ((((v8 (v8 (qb3 _ _ _ _) hb1) hb2).setCell (by simp;omega) _).setCell (by simp;omega) _).setCell (by simp;omega) _)
theorem vy2 (x y:V) (hx:Rng x.num) (hy:Rng y.num) (w:World) :
  Calls Tryz.prog 156 #[vV x,vV y] w fun e w'=>e=.returned (vV (mulV x y))∧Below w.heap.size w w':=by
 unfold mulV
 cases hk:vc1 x y with
 | true=>
  have HK:=v7 hk
  clear hk
  cases h0:(y.num==0) with
  | true=>
   have hm:x.num * y.num=0:=by
    have:y.num=0:=by simpa using h0
    rw [this,Int.mul_zero]
   rw [hm]
   clear hm
   simp only [show vs4 0=true from rfl,Bool.and_self,if_true]
   conv=>arg 3;simp only [vV]
   go_enter Tryz.func156,Tryz.ntmps156
   go_wp2_with (first|(go_at_call 197;refine (x8 x y _).mono ?_;rintro e w1 ⟨rfl,hb1⟩;rw [q9 HK];obtain ⟨hc1,hf1⟩:=j6 hb1;have hz1:w.heap.size+2<w1.heap.size:=(by have:=hb1.size;simp at this;omega))|(go_at_call 103;refine (qq8 _ _).mono ?_;rintro e w2 ⟨rfl,hb2⟩;obtain ⟨hc2,hf2⟩:=j6 hb2;simp only [vV]))
   refine bodyPost_ret (by simp [results,Tryz.results156,go_sem,hc2,hc1,hz1]<;>rfl) rfl ⟨rfl, ?_⟩
   exact ((((v8 (v8 (qb3 _ _ _ _) hb1) hb2).setCell (by simp;omega) _).setCell (by simp;omega) _).setCell (by simp;omega) _)
  | false=>
   have hy0:¬y.num=0:=by simpa using h0
   have ht:=mul_test hx hy hy0
   cases hL:(x.num==-9223372036854775808&&y.num==-1) with
   | true=>
    rw [hL,Bool.true_or] at ht
    have hf:vs4 (x.num * y.num)=false:=by simpa using ht.symm
    rw [hf]
    have HL:=v7 hL
    clear ht hf hL
    simp only [Bool.and_false,Bool.false_eq_true,if_false]
    conv=>arg 3;simp only [vV]
    go_enter Tryz.func156,Tryz.ntmps156
    go_wp2_with (first|(go_at_call 197;refine (x8 x y _).mono ?_;rintro e w1 ⟨rfl,hb1⟩;rw [q9 HK];obtain ⟨hc1,hf1⟩:=j6 hb1;have hz1:w.heap.size+2<w1.heap.size:=(by have:=hb1.size;simp at this;omega)))
    go_quiet ((go_at_call 198;exact Calls.quiet_of_same (qy1 (q9 HL) _)))
    go_wp2_with (first|(go_at_call 146;refine (qd1 _).mono ?_;rintro e w2 ⟨rfl,hb2'⟩;have hb2:Below w1.heap.size w1 w2:=(below_drewN (Below.refl w1.heap.size w1) _).trans hb2';clear hb2';obtain ⟨hc2,hf2⟩:=j6 hb2;simp only [vV]))
    refine bodyPost_ret (by simp [results,Tryz.results156,go_sem,hc2,hc1,hz1]<;>rfl) rfl ⟨rfl, ?_⟩
    exact ((((v8 (v8 (qb3 _ _ _ _) hb1) hb2).setCell (by simp;omega) _).setCell (by simp;omega) _).setCell (by simp;omega) _)
   | false=>
    rw [hL,Bool.false_or] at ht
    have HL:=v7 hL
    clear hL
    cases hf:vs4 (x.num * y.num) with
    | true=>
     rw [hf,Bool.not_true] at ht
     have ht2:(wrap64 ((wrap64 (x.num * y.num)).tdiv y.num) != x.num)=false:=ht
     have HW:=v7 (vi2 hf)
     clear hf
     simp only [Bool.and_self,if_true]
     conv=>arg 3;simp only [vV]
     go_enter Tryz.func156,Tryz.ntmps156
     go_wp2_with (first|(go_at_call 197;refine (x8 x y _).mono ?_;rintro e w1 ⟨rfl,hb1⟩;rw [q9 HK];obtain ⟨hc1,hf1⟩:=j6 hb1;have hz1:w.heap.size+2<w1.heap.size:=(by have:=hb1.size;simp at this;omega)))
     go_quiet ((go_at_call 198;exact Calls.quiet_of_same (qy1 (q9 HL) _)))
     go_wp2_with (first|(go_at_call 103;rw [q9 HW];refine (qq8 _ _).mono ?_;rintro e w2 ⟨rfl,hb2'⟩;have hb2:Below w1.heap.size w1 w2:=(below_drewN (Below.refl w1.heap.size w1) _).trans hb2';clear hb2';obtain ⟨hc2,hf2⟩:=j6 hb2;simp only [vV]))
     refine bodyPost_ret (by simp [results,Tryz.results156,go_sem,hc2,hc1,hz1]<;>rfl) rfl ⟨rfl, ?_⟩
     exact ((((v8 (v8 (qb3 _ _ _ _) hb1) hb2).setCell (by simp;omega) _).setCell (by simp;omega) _).setCell (by simp;omega) _)
    | false=>
     rw [hf,Bool.not_false] at ht
     have ht2:(wrap64 ((wrap64 (x.num * y.num)).tdiv y.num) != x.num)=true:=ht
     clear hf
     simp only [Bool.and_false,Bool.false_eq_true,if_false]
     conv=>arg 3;simp only [vV]
     go_enter Tryz.func156,Tryz.ntmps156
     go_wp2_with (first|(go_at_call 197;refine (x8 x y _).mono ?_;rintro e w1 ⟨rfl,hb1⟩;rw [q9 HK];obtain ⟨hc1,hf1⟩:=j6 hb1;have hz1:w.heap.size+2<w1.heap.size:=(by have:=hb1.size;simp at this;omega)))
     go_quiet ((go_at_call 198;exact Calls.quiet_of_same (qy1 (q9 HL) _)))
     go_wp2_with (first|(go_at_call 146;refine (qd1 _).mono ?_;rintro e w2 ⟨rfl,hb2'⟩;have hb2:Below w1.heap.size w1 w2:=(below_drewN (Below.refl w1.heap.size w1) _).trans hb2';clear hb2';obtain ⟨hc2,hf2⟩:=j6 hb2;simp only [vV]))
     refine bodyPost_ret (by simp [results,Tryz.results156,go_sem,hc2,hc1,hz1]<;>rfl) rfl ⟨rfl, ?_⟩
     exact ((((v8 (v8 (qb3 _ _ _ _) hb1) hb2).setCell (by simp;omega) _).setCell (by simp;omega) _).setCell (by simp;omega) _)
 | false=>
  have HK:=v7 hk
  clear hk
  simp only [Bool.false_and,Bool.false_eq_true,if_false]
  conv=>arg 3;simp only [vV]
  go_enter Tryz.func156,Tryz.ntmps156
  go_wp2_with (first|(go_at_call 197;refine (x8 x y _).mono ?_;rintro e w1 ⟨rfl,hb1⟩;rw [q9 HK];obtain ⟨hc1,hf1⟩:=j6 hb1;have hz1:w.heap.size+2<w1.heap.size:=(by have:=hb1.size;simp at this;omega))|(go_at_call 146;refine (qd1 _).mono ?_;rintro e w2 ⟨rfl,hb2⟩;obtain ⟨hc2,hf2⟩:=j6 hb2;simp only [vV]))
  refine bodyPost_ret (by simp [results,Tryz.results156,go_sem,hc2,hc1,hz1]<;>rfl) rfl ⟨rfl, ?_⟩
  exact ((((v8 (v8 (qb3 _ _ _ _) hb1) hb2).setCell (by simp;omega) _).setCell (by simp;omega) _).setCell (by simp;omega) _)
end
section
structure Pr where
 name:List UInt8
 val:V
def EvAt (w:World) (b off:Nat) (ps:List Pr):Prop:=∀(k:Nat) (p:Pr),ps[k]?=some p →
 w.cell? ⟨b,off+k * 4,none⟩=some (.string (BS p.name))∧w.cell? ⟨b,off+k * 4+1,none⟩=some (.int .i64 p.val.kind) ∧
 w.cell? ⟨b,off+k * 4+2,none⟩=some (.int .i64 p.val.num)∧w.cell? ⟨b,off+k * 4+3,none⟩=some (.string (BS p.val.str))
def jj2 (ps:List Pr) (n:List UInt8):Bool:=ps.any fun p=>p.name==n
theorem x3 {a w:World} (h:Below a.heap.size a w) (o:Obj):Below a.heap.size a (w.alloc o):=h.alloc h.size o
theorem EvAt.below {w w':World} {b off:Nat} {ps:List Pr} (h:EvAt w b off ps) (hb:Below w.heap.size w w') (hlt:b<w.heap.size):EvAt w' b off ps:=by
 intro k p hk
 obtain ⟨h1,h2,h3,h4⟩:=h k p hk
 exact ⟨(hb.cell hlt).trans h1,(hb.cell hlt).trans h2,(hb.cell hlt).trans h3,(hb.cell hlt).trans h4⟩
theorem any_drop {ps:List Pr} {n:List UInt8} {k:Nat} {p:Pr} (h:ps[k]?=some p):jj2 (ps.drop k) n=(p.name==n||jj2 (ps.drop (k+1)) n):=by
 obtain ⟨hk,he⟩:=List.getElem?_eq_some_iff.1 h
 unfold jj2
 rw [List.drop_eq_getElem_cons hk,List.any_cons,he]
theorem has_any (b off cap:Nat) (ps:List Pr) (s:ByteArray) (w:World) (hps:ps.length≤8) (hw:EvAt w b off ps) (hlt:b<w.heap.size) :
  Calls Tryz.prog 66 #[.slice (some ⟨b,off,none⟩) ps.length cap,.string s] w fun e w'=>e=.returned (.bool (jj2 ps s.data.toList))∧Below w.heap.size w w':=by
 go_enter Tryz.func66,Tryz.ntmps66
 go_wp2_with fail
 go_loopw [6,9] (fun _ i wr=>∃k:Nat,k≤ps.length∧i=.int .i64 k∧Hid (jj2 ps s.data.toList=jj2 (ps.drop k) s.data.toList)∧Below w.heap.size w wr) (fun _ i _=>ps.length - (intOf i).toNat)
 case atStart=>exact ⟨0,Nat.zero_le _,rfl,v7 (by rw [List.drop_zero]),Below.refl _ _⟩
 case round=>
  obtain ⟨k,hk,rfl,hh,hb⟩:=hrel
  by_cases hlt2:k<ps.length
  ·obtain ⟨p,hp⟩:∃p,ps[k]?=some p:=⟨_,List.getElem?_eq_getElem hlt2⟩
   obtain ⟨h1,h2,h3,h4⟩:=(hw.below hb hlt) k p hp
   have hA:=any_drop (n:=s.data.toList) hp
   have hst:((BS p.name).toList==s.toList)=(p.name==s.data.toList):=by rw [qn3,Lib.toList_data]
   cases he:(p.name==s.data.toList) with
   | true=>
    rw [he,Bool.true_or] at hA
    rw [he] at hst
    have HT:Hid (jj2 ps s.data.toList=true):=v7 (by rw [q9 hh,hA])
    clear hA hp he hh
    go_wp2_with fail
    go_ret
    exact ⟨qe7 (by rw [q9 HT]),x3 hb _⟩
   | false=>
    rw [he,Bool.false_or] at hA
    rw [he] at hst
    have HT:Hid (jj2 ps s.data.toList=jj2 (ps.drop (k+1)) s.data.toList):=v7 (by rw [q9 hh,hA])
    clear hA hp he hh
    go_wp2_with fail
    exact ⟨⟨k+1,by omega,by go_num,HT,x3 hb _⟩,by simp [intOf];omega⟩
  ·have HT:Hid (jj2 ps s.data.toList=false):=v7 (by rw [q9 hh,List.drop_of_length_le (by omega)];rfl)
   clear hh
   go_wp2_with fail
   go_ret
   exact ⟨qe7 (by rw [q9 HT]),hb⟩
def qz5 (ps:List Pr) (n:List UInt8):V:=match ps.find? fun p=>p.name==n with
 | some p=>p.val
 | none=>nV
theorem find_drop {ps:List Pr} {n:List UInt8} {k:Nat} {p:Pr} (h:ps[k]?=some p):qz5 (ps.drop k) n=if p.name==n then p.val else qz5 (ps.drop (k+1)) n:=by
 obtain ⟨hk,he⟩:=List.getElem?_eq_some_iff.1 h
 unfold qz5
 rw [List.drop_eq_getElem_cons hk,he,List.find?_cons]
 cases p.name==n<;>rfl
theorem find_any (b off cap:Nat) (ps:List Pr) (s:ByteArray) (w:World) (hps:ps.length≤8) (hw:EvAt w b off ps) (hlt:b<w.heap.size) :
  Calls Tryz.prog 102 #[.slice (some ⟨b,off,none⟩) ps.length cap,.string s] w fun e w'=>e=.returned (vV (qz5 ps s.data.toList))∧Below w.heap.size w w':=by
 obtain ⟨F,hF⟩:∃f,qz5 ps s.data.toList=f:=⟨_,rfl⟩
 rw [hF]
 have HF:=v7 hF
 clear hF
 go_enter Tryz.func102,Tryz.ntmps102
 go_wp2_with fail
 go_loopw [6,9] (fun _ i wr=>∃k:Nat,k≤ps.length∧i=.int .i64 k∧Hid (F=qz5 (ps.drop k) s.data.toList)∧Below (w.heap.size+1) (w.alloc (.cells #[.int .i64 0,.int .i64 0,.string ⟨#[]⟩] 118)) wr) (fun _ i _=>ps.length - (intOf i).toNat)
 case atStart=>exact ⟨0,Nat.zero_le _,rfl,v7 (by rw [List.drop_zero,q9 HF]),Below.refl _ _⟩
 case round=>
  obtain ⟨k,hk,rfl,hh,hb⟩:=hrel
  have hb':Below (w.alloc (.cells #[.int .i64 0,.int .i64 0,.string ⟨#[]⟩] 118)).heap.size (w.alloc (.cells #[.int .i64 0,.int .i64 0,.string ⟨#[]⟩] 118)) wr:=by simpa using hb
  have hbw:=qc4 hb'
  obtain ⟨hc0,hf0⟩:=j6 hb'
  have hz0:w.heap.size<wr.heap.size:=by have:=hb'.size;simp at this;omega
  by_cases hlt2:k<ps.length
  ·obtain ⟨p,hp⟩:∃p,ps[k]?=some p:=⟨_,List.getElem?_eq_getElem hlt2⟩
   obtain ⟨h1,h2,h3,h4⟩:=hw k p hp
   have hA:=find_drop (n:=s.data.toList) hp
   have hst:((BS p.name).toList==s.toList)=(p.name==s.data.toList):=by rw [qn3,Lib.toList_data]
   cases he:(p.name==s.data.toList) with
   | true=>
    rw [he,if_pos rfl] at hA
    rw [he] at hst
    have HT:Hid (F=p.val):=v7 (by rw [q9 hh,hA])
    clear hA hp he hh
    go_wp2_with fail
    refine bodyPost_ret (by simp [results,Tryz.results102,go_sem,hc0,hz0]<;>rfl) rfl ⟨?_, ?_⟩
    ·rw [q9 HT];rfl
    ·exact x3 (((hbw.setCell (by simp) _).setCell (by simp) _).setCell (by simp) _) _
   | false=>
    rw [he,if_neg (by simp)] at hA
    rw [he] at hst
    have HT:Hid (F=qz5 (ps.drop (k+1)) s.data.toList):=v7 (by rw [q9 hh,hA])
    clear hA hp he hh
    go_wp2_with fail
    exact ⟨⟨k+1,by omega,by go_num,HT,hb.alloc (by omega) _⟩,by simp [intOf];omega⟩
  ·have HT:Hid (F=nV):=v7 (by rw [q9 hh,List.drop_of_length_le (by omega)];rfl)
   clear hh
   go_wp2_with fail
   refine bodyPost_ret (by simp [results,Tryz.results102,go_sem,hc0]<;>rfl) rfl ⟨?_, ?_⟩
   ·rw [q9 HT];rfl
   ·exact ((hbw.setCell (by simp) _).setCell (by simp) _).setCell (by simp) _
theorem jw3 (a:Option Addr) (cap:Nat) (s:ByteArray) (w:World) :
  Calls Tryz.prog 102 #[.slice a 0 cap,.string s] w fun e w'=>e=.returned (vV nV)∧Below w.heap.size w w':=by
 go_enter Tryz.func102,Tryz.ntmps102
 go_wp2_with fail
 refine wp_loop_rounds 1 ?_
 rw [rounds_succ]
 go_wp2_with fail
 refine bodyPost_ret (by simp [results,Tryz.results102,go_sem]<;>rfl) rfl ⟨rfl,(Below.refl _ _).alloc (Nat.le_refl _) _⟩
def qw8 (n:List UInt8):Bool:=decide (n.length≤16)&&nameB n
def vy3 (v:V):Bool:=
 if v.kind==0 then v.num==0&&v.str.isEmpty
 else if v.kind==1 then (v.num==0||v.num==1)&&v.str.isEmpty
 else if v.kind==2 then v.str.isEmpty
 else if v.kind==3 then v.num==0&&decide (v.str.length≤20)
 else false
end
section
def dig (n:Nat):UInt8:=UInt8.ofNat (48+n % 10)
theorem qk8 (a b:List UInt8):BS a++BS b=BS (a++b):=by
 apply ByteArray.ext
 show (BS a++BS b).data=_
 rw [ByteArray.data_append]
 simp [BS]
end
section
theorem qk7 (s:ByteArray) (hs:s.size≤140737488355328) (w:World) :
  Calls Tryz.prog 64 #[.string s] w fun e w'=>e=.returned (.bool (qw8 s.data.toList))∧Below w.heap.size w w':=by
 unfold qw8
 rw [qb0]
 obtain ⟨nb,hn⟩:∃nb,nameB s.data.toList=nb:=⟨_,rfl⟩
 rw [hn]
 have HN:=v7 hn
 clear hn
 by_cases h:s.size≤16
 ·go_enter Tryz.func64,Tryz.ntmps64
  go_wp2_with (go_at_call 97;refine (jx6 _ hs _).mono ?_;rintro e w' ⟨rfl,hb⟩;rw [q9 HN])
  all_goals (go_ret;exact ⟨qe7 (by simp_all),by assumption⟩)
 ·go_enter Tryz.func64,Tryz.ntmps64
  go_wp2_with fail
  go_ret
  exact ⟨qe7 (by simp<;>omega),Below.refl _ _⟩
theorem BS_empty (l:List UInt8):(BS l).toList.isEmpty=l.isEmpty:=by rw [qn3]
theorem qn1 (v:V) (hv:v.str.length≤140737488355328) (w:World) :
  Calls Tryz.prog 65 #[vV v] w fun e w'=>e=.returned (.bool (vy3 v))∧Below w.heap.size w w':=by
 have he:=BS_empty v.str
 have hz:=qc0 v.str
 unfold vy3
 obtain ⟨em,hem⟩:∃em,v.str.isEmpty=em:=⟨_,rfl⟩
 rw [hem] at he ⊢
 clear hem
 conv=>arg 3;simp only [vV]
 cases h0:(v.kind==0)
 ·cases h1:(v.kind==1)
  ·cases h2:(v.kind==2)
   ·cases h3:(v.kind==3)
    ·simp only [Bool.false_eq_true,if_false]
     go_enter Tryz.func65,Tryz.ntmps65
     go_wp2_with fail
     go_ret
     exact ⟨rfl,(Below.refl _ _).alloc (Nat.le_refl _) _⟩
    ·simp only [Bool.false_eq_true,if_false,if_true]
     go_enter Tryz.func65,Tryz.ntmps65
     go_wp2_with fail
     all_goals (go_ret;exact ⟨qe7 (by simp_all<;>omega),(Below.refl _ _).alloc (Nat.le_refl _) _⟩)
   ·simp only [Bool.false_eq_true,if_false,if_true]
    go_enter Tryz.func65,Tryz.ntmps65
    go_wp2_with fail
    all_goals (go_ret;exact ⟨qe7 (by simp_all<;>omega),(Below.refl _ _).alloc (Nat.le_refl _) _⟩)
  ·simp only [Bool.false_eq_true,if_false,if_true]
   go_enter Tryz.func65,Tryz.ntmps65
   go_wp2_with fail
   all_goals (go_ret;exact ⟨qe7 (by simp_all<;>omega),(Below.refl _ _).alloc (Nat.le_refl _) _⟩)
 ·simp only [if_true]
  go_enter Tryz.func65,Tryz.ntmps65
  go_wp2_with fail
  all_goals (go_ret;exact ⟨qe7 (by simp_all<;>omega),(Below.refl _ _).alloc (Nat.le_refl _) _⟩)
end
section
def zd0 (ps:List Pr) (k:Nat):Bool:=match ps[k]? with
 | some p=>qw8 p.name&&vy3 p.val&&!jj2 (ps.take k) p.name
 | none=>true
def ve2 (ps:List Pr):Bool:=decide (ps.length≤8)&&(List.range ps.length).all (zd0 ps)
theorem evOk_long {ps:List Pr} (h:¬ps.length≤8):ve2 ps=false:=by unfold ve2;rw [decide_eq_false h];rfl
theorem evOk_good {ps:List Pr} (h8:ps.length≤8) (h:∀j,j<ps.length→zd0 ps j=true):ve2 ps=true:=by
 unfold ve2
 rw [decide_eq_true h8,Bool.true_and,List.all_eq_true]
 exact fun j hj=>h j (List.mem_range.1 hj)
theorem EvAt.take {w:World} {b off:Nat} {ps:List Pr} (h:EvAt w b off ps) (k:Nat):EvAt w b off (ps.take k):=by
 intro j p hj
 rw [List.getElem?_take] at hj
 split at hj
 ·exact h j p hj
 ·cases hj
def Short (ps:List Pr):Prop:=∀p∈ps,p.name.length≤140737488355328∧p.val.str.length≤140737488355328
theorem has_k {qs:List Pr} {k:Nat} (hq:qs.length=k) (cap:Nat) {b off:Nat} (s:ByteArray) (w:World) (hk:k≤8) (hw:EvAt w b off qs) (hlt:b<w.heap.size) :
  Calls Tryz.prog 66 #[.slice (some ⟨b,off,none⟩) k cap,.string s] w fun e w'=>e=.returned (.bool (jj2 qs s.data.toList))∧Below w.heap.size w w':=by
 subst hq;exact has_any b off cap qs s w hk hw hlt
theorem EvAt.later {w W w1 w2:World} {b off:Nat} {ps:List Pr} {o:Obj} (h:EvAt w b off ps) (hW:W=(w.alloc o).drew) (hlt:b<w.heap.size) (hb1:Below W.heap.size W w1) (hb2:Below w1.heap.size w1 w2):EvAt w2 b off ps:=by
 subst hW
 have h1:EvAt (w.alloc o).drew b off ps:=h.below ((Below.refl _ _).alloc (Nat.le_refl _) o).drew hlt
 have hlt1:b<(w.alloc o).drew.heap.size:=by show b<(w.alloc o).heap.size;simp;omega
 exact (h1.below hb1 hlt1).below hb2 (Nat.lt_of_lt_of_le hlt1 hb1.size)
theorem zc1 (b off cap:Nat) (ps:List Pr) (w:World) (hcap:ps.length≤cap) (hbig:ps.length≤140737488355328) (hsh:Short ps) (hw:EvAt w b off ps) (hlt:b<w.heap.size) (hok:ve2 ps=true) :
  Calls Tryz.prog 40 #[.slice (some ⟨b,off,none⟩) ps.length cap] w fun e w'=>e=.returned (.bool true)∧Below w.heap.size w w':=by
 obtain ⟨h8,hg⟩:ps.length≤8∧∀j,j<ps.length→zd0 ps j=true:=by
  unfold ve2 at hok
  rw [Bool.and_eq_true,decide_eq_true_eq,List.all_eq_true] at hok
  exact ⟨hok.1,fun j hj=>hok.2 j (List.mem_range.2 hj)⟩
 have HG:=v7 hg
 clear hg hok
 go_enter Tryz.func40,Tryz.ntmps40
 go_wp2_with fail
 go_loopw [3,4,10] (fun _ _ i wr=>∃k:Nat,k≤ps.length∧i=.int .i64 k∧Hid (∀j,j<k→zd0 ps j=true)∧Below w.heap.size w wr) (fun _ _ i _=>ps.length - (intOf i).toNat)
 case atStart=>exact ⟨0,Nat.zero_le _,rfl,v7 (fun j hj=>absurd hj (by omega)),Below.refl _ _⟩
 case round=>
  obtain ⟨k,hk,rfl,hh,hb⟩:=hrel
  by_cases hlt2:k<ps.length
  ·obtain ⟨p,hp⟩:∃p,ps[k]?=some p:=⟨_,List.getElem?_eq_getElem hlt2⟩
   have hwr:=hw.below hb hlt
   have hltr:b<wr.heap.size:=Nat.lt_of_lt_of_le hlt hb.size
   obtain ⟨h1,h2,h3,h4⟩:=hwr k p hp
   obtain ⟨hs1,hs2⟩:=hsh p (List.mem_of_getElem? hp)
   have hok:zd0 ps k=(qw8 p.name&&vy3 p.val&&!jj2 (ps.take k) p.name):=by unfold zd0;rw [hp]
   have htl:(ps.take k).length=k:=by rw [List.length_take];omega
   have HTK:=v7 (hwr.take k)
   have HL:=v7 htl
   clear hp hwr htl
   have hall:=q9 HG k hlt2
   rw [hok] at hall
   simp only [Bool.and_eq_true,Bool.not_eq_true'] at hall
   obtain ⟨⟨hn,hv⟩,hx⟩:=hall
   have HN:=v7 hn
   have HV:=v7 hv
   have HOK:Hid (∀j,j<k+1→zd0 ps j=true):=v7 (fun j hj=>by
    by_cases hjk:j<k
    ·exact q9 hh j hjk
    ·have:j=k:=by omega
     rw [this,hok,hn,hv,hx];rfl)
   have HH:=v7 hx
   clear hn hok hv hx
   go_wp2_with fail
   go_region_with (first|(go_at_call 64;refine (qk7 _ (by exact hs1) _).mono ?_;rintro e w1 ⟨rfl,hb1⟩;rw [show qw8 (BS p.name).data.toList=true from q9 HN];obtain ⟨hc1,hf1⟩:=j6 hb1;have hz1:wr.heap.size<w1.heap.size:=(by have:=hb1.size;simp at this;omega);have hB1:Below w.heap.size w w1:=v8 (x3 hb _).drew hb1)|(go_at_call 65;refine (qn1 p.val hs2 _).mono ?_;rintro e w2 ⟨rfl,hb2⟩;rw [q9 HV];obtain ⟨hc2,hf2⟩:=j6 hb2;have hz2:wr.heap.size<w2.heap.size:=(by have:=hb2.size;omega);have hB2:Below w.heap.size w w2:=v8 hB1 hb2)|(go_at_call 66;refine (has_k (q9 HL) cap (BS p.name) _ (by omega) (by exact (q9 HTK).later rfl hltr hb1 hb2) (by omega)).mono ?_;rintro e w3 ⟨rfl,hb3⟩;rw [show jj2 (ps.take k) (BS p.name).data.toList=false from q9 HH];have hB3:Below w.heap.size w w3:=v8 hB2 hb3))
   all_goals (go_wp2_with fail)
   all_goals exact ⟨⟨k+1,by omega,by go_num,HOK,hB3⟩,by simp [intOf];omega⟩
  ·clear hh
   go_wp2_with fail
   go_ret
   exact ⟨rfl,hb⟩
end
end Go.Proofs.YtfkcaldjphakpabGreatDoor
