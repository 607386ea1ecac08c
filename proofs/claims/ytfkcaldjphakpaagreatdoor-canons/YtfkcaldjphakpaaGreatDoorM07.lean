/- Patterns: plain; what cut is to answer. cut and Valid. Contracts of package value: sums, differences, products, quotients. Contracts of package events: has, Find. -/
import Derived.Test.YtfkcaldjphakpaaGreatDoorM02
import Derived.Deep.QuietTactic
import Derived.BigQuiet
set_option maxHeartbeats 1000000
set_option maxRecDepth 100000
namespace Go.Proofs.YtfkcaldjphakpaaGreatDoor
open Go.RowKit
section
structure Pc where
 kind:Int
 c:UInt8
def pcV (p:Pc):Value:=.agg #[.int .i64 p.kind,.int .u8 p.c.toNat]
def qu6 (c:UInt8):Pc:=if ((c.toNat:Int)==37)=true then ⟨2,0⟩ else if ((c.toNat:Int)==95)=true then ⟨1,0⟩ else ⟨0,c⟩
theorem vt9 (c:UInt8) (w:World) :
  Calls Tryz.prog 250 #[.int .u8 c.toNat] w fun e w'=>e=.returned (pcV (qu6 c))∧Below w.heap.size w w':=by
 unfold qu6
 cases h1:((c.toNat:Int)==37)
 ·cases h2:((c.toNat:Int)==95)
  ·simp only [Bool.false_eq_true,if_false]
   go_enter Tryz.func250,Tryz.ntmps250
   go_wp2_with fail
   refine bodyPost_ret (by simp [results,Tryz.results250,go_sem];rfl) rfl ⟨rfl,(Below.refl _ _).alloc (Nat.le_refl _) _⟩
  ·simp only [Bool.false_eq_true,if_false,if_true]
   go_enter Tryz.func250,Tryz.ntmps250
   go_wp2_with fail
   refine bodyPost_ret (by simp [results,Tryz.results250,go_sem];rfl) rfl ⟨rfl,(Below.refl _ _).alloc (Nat.le_refl _) _⟩
 ·simp only [if_true]
  go_enter Tryz.func250,Tryz.ntmps250
  go_wp2_with fail
  refine bodyPost_ret (by simp [results,Tryz.results250,go_sem];rfl) rfl ⟨rfl,(Below.refl _ _).alloc (Nat.le_refl _) _⟩
def qs2 (e:List UInt8):List UInt8→Option (List Pc)
 | []=>some []
 | [c]=>if e.head?=some c then none else some [qu6 c]
 | c::d::t=>if e.head?=some c then (qs2 e t).map (⟨0,d⟩::·) else (qs2 e (d::t)).map (qu6 c::·)
theorem vi9 {e p:List UInt8} {k:Nat} {c:UInt8} (h:p[k]?=some c) (hn:¬e.head?=some c):qs2 e (p.drop k)=(qs2 e (p.drop (k+1))).map (qu6 c::·):=by
 obtain ⟨hk,he⟩:=List.getElem?_eq_some_iff.1 h
 rw [List.drop_eq_getElem_cons hk,he]
 cases hd:p.drop (k+1) with
 | nil=>show (if e.head?=some c then none else some [qu6 c])=_;rw [if_neg hn];rfl
 | cons d t=>rw [qs2,if_neg hn]
theorem jd8 {e p:List UInt8} {k:Nat} {c d:UInt8} (h:p[k]?=some c) (hn:e.head?=some c) (h2:p[k+1]?=some d):qs2 e (p.drop k)=(qs2 e (p.drop (k+2))).map (⟨0,d⟩::·):=by
 obtain ⟨hk,he⟩:=List.getElem?_eq_some_iff.1 h
 obtain ⟨hk2,he2⟩:=List.getElem?_eq_some_iff.1 h2
 rw [List.drop_eq_getElem_cons hk,he,List.drop_eq_getElem_cons hk2,he2,qs2,if_pos hn]
theorem vr9 {e p:List UInt8} {k:Nat} {c:UInt8} (h:p[k]?=some c) (hn:e.head?=some c) (h2:p.length≤k+1):qs2 e (p.drop k)=none:=by
 obtain ⟨hk,he⟩:=List.getElem?_eq_some_iff.1 h
 rw [List.drop_eq_getElem_cons hk,he,List.drop_of_length_le h2,qs2,if_pos hn]
theorem jd7 {e p:List UInt8} {k:Nat} (h:p.length≤k):qs2 e (p.drop k)=some []:=by
 rw [List.drop_of_length_le h,qs2]
def qu5 (ps:List Pc):List Value:=ps.flatMap fun p=>[.int .i64 p.kind,.int .u8 p.c.toNat]
theorem vt8 (ps:List Pc) (p:Pc):qu5 (ps++[p])=qu5 ps++[.int .i64 p.kind,.int .u8 p.c.toNat]:=by simp [qu5]
end
section
theorem ji0:(Tryz.prog.info? 262).map (fun i=>(i.zero,i.size,i.bytes))=some (some (.agg #[.int .i64 0,.int .u8 0]),2,16):=by kernel_rfl
def CutEnds (w:World) (r:Option (List Pc)) (e:Ending) (w':World):Prop:=
 Below w.heap.size w w'∧match r with
 | none=>e=.returned (.tuple #[.slice none 0 0,.bool false])
 | some ps=>∃v,e=.returned (.tuple #[v,.bool true])∧w'.ownsRow w.heap.size 262 2 v ps.length (qu5 ps)
theorem qj7 {base e size n B:Nat} {w w':World} {v:Value} {xs:List Value} (h:w.ownsRow base e size v n xs) (hb:Below B w w') (hB:w.heap.size≤B):w'.ownsRow base e size v n xs:=by
 refine ⟨h.1, ?_⟩
 rcases h.2 with hn|⟨g,cap,cur,rfl,hbg,hgg,rest⟩
 ·exact .inl hn
 ·refine .inr ⟨g,cap,cur,rfl,hbg, ?_,rest⟩
  rw [hb.block g (by have:=(Array.getElem?_eq_some_iff.1 hgg).1;omega)]
  exact hgg
theorem ja8 {base e size n:Nat} {w:World} {v:Value} {xs:List Value} (h:w.ownsRow base e size v n xs):∀k,v.ownBlock=some k→base≤k:=fun k hk=>(h.lt k hk).1
theorem Below.grown {B:Nat} {a w w':World} {row:Option Nat} (h:Below B a w) (hg:w.grownBy w' row) (hB:B≤w.heap.size) (hrow:∀k,row=some k→B≤k):Below B a w':=
 ⟨hg.os.trans h.os,hg.tape.trans h.tape,hg.output.trans h.output,Nat.le_trans h.size hg.size,fun k hk=>(hg.block k (by omega) (fun e=>by have:=hrow k e.symm;omega)).trans (h.block k hk)⟩
theorem vm0 {w wr w1 w2:World} {e:Nat} {v v':Value} {ps:List Pc} {q:Pc} {o:Obj} (hown':w2.ownsRow w.heap.size e 2 v' (ps.length+1) (qu5 ps++[.int .i64 q.kind,.int .u8 q.c.toNat])) (hgrow:(w1.alloc o).grownBy w2 v.ownBlock)
  (hown1:w1.ownsRow w.heap.size e 2 v ps.length (qu5 ps)) (hbel:Below w.heap.size w wr) (hb1:Below wr.heap.size wr w1) :
  w2.ownsRow w.heap.size e 2 v' (ps++[q]).length (qu5 (ps++[q]))∧Below w.heap.size w w2:=by
 have h1:=hbel.size
 have h2:=hb1.size
 refine ⟨by rw [vt8,List.length_append];exact hown', ?_⟩
 exact Below.grown ((j6 hbel hb1).alloc (by omega) o) hgrow (by simp;omega) (ja8 hown1)
theorem cut_any (p e:ByteArray) (hp:p.size≤200) (w:World) :
  Calls Tryz.prog 203 #[.string p,.string e] w (CutEnds w (qs2 e.data.toList p.data.toList)):=by
 obtain ⟨R,hR⟩:∃r,qs2 e.data.toList p.data.toList=r:=⟨_,rfl⟩
 rw [hR]
 have HR:=j4 hR
 clear hR
 obtain ⟨i0,hi,hz0,hz1',hz2'⟩:=info_parts ji0
 go_enter Tryz.func203,Tryz.ntmps203
 go_wp2_with fail
 go_loopw [6,7] (fun v i wr=>∃(k:Nat) (ps:List Pc),k≤p.size∧ps.length≤k∧i=.int .i64 k∧Hid (R=(qs2 e.data.toList (p.data.toList.drop k)).map (ps++·))∧wr.ownsRow w.heap.size 262 2 v ps.length (qu5 ps)∧Below w.heap.size w wr) (fun _ i _=>p.size - (intOf i).toNat)
 case atStart=>exact ⟨0,[],Nat.zero_le _,Nat.zero_le _,rfl,j4 (by rw [List.drop_zero,q9 HR];cases R<;>rfl),World.ownsRow_nil _ _ _ _,Below.refl _ _⟩
 case round=>
  obtain ⟨k,ps,hk,hpk,rfl,hh,hown,hbel⟩:=hrel
  have hbz:=hbel.size
  by_cases hlt:k<p.size
  ·have hpe:p.data.toList[k]?=some p[k]:=by rw [List.getElem?_eq_getElem (by rw [qa5];exact hlt),qb3 p k hlt]
   have plainCase:¬e.data.toList.head?=some p[k]→Hid (R=(qs2 e.data.toList (p.data.toList.drop (k+1))).map ((ps++[qu6 p[k]])++·)):=fun hn=>j4 (by rw [q9 hh,vi9 hpe hn];cases qs2 e.data.toList (p.data.toList.drop (k+1))<;>simp)
   by_cases he:0<e.size
   ·have hne:=vw3 he
    have hhd:e.data.toList.head?=some e[0]:=by
     have:=List.getElem?_eq_getElem (l:=e.data.toList) (i:=0) (by rw [qa5];exact he)
     rw [qb3 e 0 he] at this
     rw [List.head?_eq_getElem?];exact this
    cases hx:(p[k]==e[0]) with
    | false=>
     have HT:=plainCase (by rw [hhd];intro h;injection h with h;rw [h] at hx;simp at hx)
     have hx':((p[k].toNat:Int)==(e[0].toNat:Int))=false:=by rw [vk4];exact hx
     clear plainCase hh hpe hhd hx
     go_wp2_with fail
     go_quiet (fail)
     go_wp2_with (first|(go_at_call 250;refine (vt9 p[k] _).mono ?_;rintro en w1 ⟨rfl,hb1'⟩;have hb1:Below wr.heap.size wr w1:=(below_drewN (Below.refl _ wr) _).trans hb1';clear hb1';have hz1:=hb1.size;have hown1:=qj7 hown hb1 (Nat.le_refl _);simp only [pcV])|(at_builtin;refine wpList_append_own _ rfl _ _ 256 rfl w.heap.size 262 i0 (.agg #[.int .i64 0,.int .u8 0]) 2 16 Tryz.underlying256 hi hz0 hz1' hz2' rfl (by decide) _ _ _ rfl (hown1.alloc _) ⟨w1.heap.size,0,none⟩ 1 1 [.int .i64 (qu6 p[k]).kind,.int .u8 (qu6 p[k]).c.toNat] rfl rfl ?c1 ?c2 ?c3 ?c4 ?c5 ?_))
     case c1=>
      intro j u hj
      match j,hj with
      | 0,hj=>simp at hj;subst hj;simp [Addr.add]
      | 1,hj=>simp at hj;subst hj;simp [Addr.add]
      | j+2,hj=>simp at hj
     case c2=>intro u hu;simp at hu;rcases hu with rfl|rfl<;>rfl
     case c3=>unfold maxLen;omega
     case c4=>omega
     case c5=>simp;omega
     ·intro v' w2 hown' hgrow _
      have R:=vm0 hown' hgrow hown1 hbel hb1
      clear hown' hgrow hown hown1
      go_wp2
      go_roundw
      case rel=>exact ⟨k+1,_,by omega,by simp;omega,by go_num,HT,R.1,R.2⟩
      case measure=>simp [intOf];omega
    | true=>
     have hxe:e.data.toList.head?=some p[k]:=by rw [hhd,beq_iff_eq.1 hx]
     have hx':((p[k].toNat:Int)==(e[0].toNat:Int))=true:=by rw [vk4];exact hx
     by_cases hl:k+1<p.size
     ·have hpe2:p.data.toList[k+1]?=some p[k+1]:=by rw [List.getElem?_eq_getElem (by rw [qa5];exact hl),qb3 p (k+1) hl]
      have HT:Hid (R=(qs2 e.data.toList (p.data.toList.drop (k+2))).map ((ps++[⟨0,p[k+1]⟩])++·)):=j4 (by rw [q9 hh,jd8 hpe hxe hpe2];cases qs2 e.data.toList (p.data.toList.drop (k+2))<;>simp)
      clear plainCase hh hpe hhd hx hpe2 hxe
      have hnl:(((k:Int)+1)==(p.size:Int))=false:=beq_eq_false_iff_ne.2 (by omega)
      go_wp2_with fail
      go_quiet (fail)
      have hown1:=qj7 hown (below_drewN (Below.refl _ wr) nq) (Nat.le_refl _)
      go_wp2_with (first|(at_builtin;refine wpList_append_own _ rfl _ _ 256 rfl w.heap.size 262 i0 (.agg #[.int .i64 0,.int .u8 0]) 2 16 Tryz.underlying256 hi hz0 hz1' hz2' rfl (by decide) _ _ _ rfl (hown1.alloc _) ⟨wr.heap.size,0,none⟩ 1 1 [.int .i64 0,.int .u8 p[k+1].toNat] rfl rfl ?c1 ?c2 ?c3 ?c4 ?c5 ?_))
      case c1=>
       intro j u hj
       match j,hj with
       | 0,hj=>simp at hj;subst hj;simp [Addr.add];exact (World.cell?_alloc_at (w:=wr.drewN nq) _ _ _ _ rfl).trans rfl
       | 1,hj=>simp at hj;subst hj;simp [Addr.add];exact (World.cell?_alloc_at (w:=wr.drewN nq) _ _ _ _ rfl).trans rfl
       | j+2,hj=>simp at hj
      case c2=>intro u hu;simp at hu;rcases hu with rfl|rfl<;>rfl
      case c3=>unfold maxLen;omega
      case c4=>omega
      case c5=>simp;omega
      ·intro v' w2 hown' hgrow _
       have R:=vm0 (q:=⟨0,p[k+1]⟩) hown' hgrow hown1 hbel (below_drewN (Below.refl _ wr) nq)
       clear hown' hgrow hown hown1
       go_wp2
       go_roundw
       case rel=>exact ⟨k+2,_,by omega,by simp;omega,by go_num,HT,R.1,R.2⟩
       case measure=>simp [intOf];omega
     ·have HT:Hid (R=none):=j4 (by rw [q9 hh,vr9 hpe hxe (by rw [qa5];omega)];rfl)
      clear plainCase hh hpe hhd hx hxe
      have hnl:(((k:Int)+1)==(p.size:Int))=true:=beq_iff_eq.2 (by omega)
      go_wp2_with fail
      go_quiet (fail)
      go_wp2_with fail
      go_ret2
      rw [q9 HT]
      exact ⟨below_drewN hbel _,rfl⟩
   ·have hee:e=⟨#[]⟩:=by cases e with|mk d=>simp [ByteArray.size] at he;simp [he]
    subst hee
    have HT:=plainCase (by simp)
    clear plainCase hh hpe he
    go_wp2_with fail
    go_quiet (fail)
    go_wp2_with (first|(go_at_call 250;refine (vt9 p[k] _).mono ?_;rintro en w1 ⟨rfl,hb1'⟩;have hb1:Below wr.heap.size wr w1:=(below_drewN (Below.refl _ wr) _).trans hb1';clear hb1';have hz1:=hb1.size;have hown1:=qj7 hown hb1 (Nat.le_refl _);simp only [pcV])|(at_builtin;refine wpList_append_own _ rfl _ _ 256 rfl w.heap.size 262 i0 (.agg #[.int .i64 0,.int .u8 0]) 2 16 Tryz.underlying256 hi hz0 hz1' hz2' rfl (by decide) _ _ _ rfl (hown1.alloc _) ⟨w1.heap.size,0,none⟩ 1 1 [.int .i64 (qu6 p[k]).kind,.int .u8 (qu6 p[k]).c.toNat] rfl rfl ?c1 ?c2 ?c3 ?c4 ?c5 ?_))
    case c1=>
     intro j u hj
     match j,hj with
     | 0,hj=>simp at hj;subst hj;simp [Addr.add]
     | 1,hj=>simp at hj;subst hj;simp [Addr.add]
     | j+2,hj=>simp at hj
    case c2=>intro u hu;simp at hu;rcases hu with rfl|rfl<;>rfl
    case c3=>unfold maxLen;omega
    case c4=>omega
    case c5=>simp;omega
    ·intro v' w2 hown' hgrow _
     have R:=vm0 hown' hgrow hown1 hbel hb1
     clear hown' hgrow hown hown1
     go_wp2
     go_roundw
     case rel=>exact ⟨k+1,_,by omega,by simp;omega,by go_num,HT,R.1,R.2⟩
     case measure=>simp [intOf];omega
  ·have HT:Hid (R=some ps):=j4 (by rw [q9 hh,jd7 (by rw [qa5];omega)];simp)
   clear hh
   go_wp2_with fail
   go_ret2
   rw [q9 HT]
   exact ⟨hbel,_,rfl,hown⟩
theorem valid_any (p e:ByteArray) (hp:p.size≤200) (w:World) :
  Calls Tryz.prog 332 #[.string p,.string e] w fun en w'=>en=.returned (.bool (qs2 e.data.toList p.data.toList).isSome)∧Below w.heap.size w w':=by
 cases hc:qs2 e.data.toList p.data.toList with
 | none=>
  have HC:=j4 hc
  clear hc
  go_enter Tryz.func332,Tryz.ntmps332
  go_wp2_with (go_at_call 203;refine (cut_any p e hp _).mono ?_;rintro en w1 ⟨hb1,h1⟩;rw [q9 HC] at h1;subst h1)
  go_ret
  exact ⟨rfl,hb1⟩
 | some ps=>
  have HC:=j4 hc
  clear hc
  go_enter Tryz.func332,Tryz.ntmps332
  go_wp2_with (go_at_call 203;refine (cut_any p e hp _).mono ?_;rintro en w1 ⟨hb1,h1⟩;rw [q9 HC] at h1;obtain ⟨v,rfl,hown⟩:=h1;clear hown)
  go_ret
  exact ⟨rfl,hb1⟩
end
section
def Rng (n:Int):Prop:=-9223372036854775808≤n∧n≤9223372036854775807
end
section
structure Pr where
 name:List UInt8
 val:V
def EvAt (w:World) (b off:Nat) (ps:List Pr):Prop:=∀(k:Nat) (p:Pr),ps[k]?=some p →
 w.cell? ⟨b,off+k * 4,none⟩=some (.string (BS p.name))∧w.cell? ⟨b,off+k * 4+1,none⟩=some (.int .i64 p.val.kind) ∧
 w.cell? ⟨b,off+k * 4+2,none⟩=some (.int .i64 p.val.num)∧w.cell? ⟨b,off+k * 4+3,none⟩=some (.string (BS p.val.str))
theorem EvAt.below {w w':World} {b off:Nat} {ps:List Pr} (h:EvAt w b off ps) (hb:Below w.heap.size w w') (hlt:b<w.heap.size):EvAt w' b off ps:=by
 intro k p hk
 obtain ⟨h1,h2,h3,h4⟩:=h k p hk
 exact ⟨(hb.cell hlt).trans h1,(hb.cell hlt).trans h2,(hb.cell hlt).trans h3,(hb.cell hlt).trans h4⟩
end
end Go.Proofs.YtfkcaldjphakpaaGreatDoor
