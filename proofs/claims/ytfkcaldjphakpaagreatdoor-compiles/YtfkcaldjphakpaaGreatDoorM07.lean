/- Patterns. -/
import Derived.Test.YtfkcaldjphakpaaGreatDoorM02
import Derived.Deep.QuietTactic
import Derived.BigQuiet
set_option maxHeartbeats 4000000
set_option maxRecDepth 100000
namespace Go.Proofs.YtfkcaldjphakpaaGreatDoor
open Go.RowKit Go.Proofs.Tryz
structure Pc where
 kind:Int
 c:UInt8
def pcV(p:Pc):Value:=.agg #[.int .i64 p.kind,.int .u8 p.c.toNat]
def qw8(c:UInt8):Pc:=if((c.toNat:Int)==37)=true then⟨2,0⟩ else if((c.toNat:Int)==95)=true then⟨1,0⟩ else⟨0,c⟩
theorem jd6(c:UInt8)(w:World):
  Calls prog 250 #[.int .u8 c.toNat] w λe w'=>e=.returned (pcV (qw8 c))/\Below w.heap.size w w':=by
 unfold qw8;cases h1:((c.toNat:Int)==37)
 ·cases h2:((c.toNat:Int)==95)
  ·simp only[Bool.false_eq_true,if_false]
   go_enter func250,ntmps250
   go_wp2_with fail
   refine bodyPost_ret (by simp[results,results250,go_sem];rfl) rfl ⟨rfl,(Below.refl _ _).alloc (Nat.le_refl _) _⟩
  ·simp only[Bool.false_eq_true,if_false,if_true]
   go_enter func250,ntmps250
   go_wp2_with fail
   refine bodyPost_ret (by simp[results,results250,go_sem];rfl) rfl ⟨rfl,(Below.refl _ _).alloc (Nat.le_refl _) _⟩
 ·simp only[if_true]
  go_enter func250,ntmps250
  go_wp2_with fail
  refine bodyPost_ret (by simp[results,results250,go_sem];rfl) rfl ⟨rfl,(Below.refl _ _).alloc (Nat.le_refl _) _⟩
def qs5(e:List UInt8):List UInt8->Option (List Pc)
 | []=>some []
 | [c]=>if e.head?=some c then none else some [qw8 c]
 | c::d::t=>if e.head?=some c then(qs5 e t).map (⟨0,d⟩::·) else(qs5 e (d::t)).map (qw8 c::·)
theorem vr5{e p:List UInt8}{k:Nat}{c:UInt8}(h:p[k]?=some c)(hn:¬e.head?=some c):qs5 e (p.drop k)=(qs5 e (p.drop (k+1))).map (qw8 c::·):=by
 obtain⟨hk,he⟩:=List.getElem?_eq_some_iff.1 h;rw[List.drop_eq_getElem_cons hk,he]
 cases hd:p.drop (k+1) with
 | nil=>show(if e.head?=some c then none else some [qw8 c])=_;rw[if_neg hn];rfl
 | cons d t=>rw[qs5,if_neg hn]
theorem jq6{e p:List UInt8}{k:Nat}{c d:UInt8}(h:p[k]?=some c)(hn:e.head?=some c)(h2:p[k+1]?=some d):qs5 e (p.drop k)=(qs5 e (p.drop (k+2))).map (⟨0,d⟩::·):=by
 obtain⟨hk,he⟩:=List.getElem?_eq_some_iff.1 h;obtain⟨A3,kH⟩:=List.getElem?_eq_some_iff.1 h2;rw[List.drop_eq_getElem_cons hk,he,List.drop_eq_getElem_cons A3,kH,qs5,if_pos hn]
theorem jb2{e p:List UInt8}{k:Nat}{c:UInt8}(h:p[k]?=some c)(hn:e.head?=some c)(h2:p.length<=k+1):qs5 e (p.drop k)=none:=by
 obtain⟨hk,he⟩:=List.getElem?_eq_some_iff.1 h;rw[List.drop_eq_getElem_cons hk,he,List.drop_of_length_le h2,qs5,if_pos hn]
theorem jq5{e p:List UInt8}{k:Nat}(h:p.length<=k):qs5 e (p.drop k)=some []:=by
 rw[List.drop_of_length_le h,qs5]
def qw6(ps:List Pc):List Value:=ps.flatMap λp=>[.int .i64 p.kind,.int .u8 p.c.toNat]
theorem jd5(ps:List Pc)(p:Pc):qw6 (ps++[p])=qw6 ps++[.int .i64 p.kind,.int .u8 p.c.toNat]:=by simp[qw6]
theorem jw0:(prog.info? 262).map (λi=>(i.zero,i.size,i.bytes))=some (some (.agg #[.int .i64 0,.int .u8 0]),2,16):=by kernel_rfl
def CutEnds(w:World)(r:Option (List Pc))(e:Ending)(w':World):Prop:=
 Below w.heap.size w w'/\match r with
 | none=>e=.returned (.tuple #[.slice none 0 0,.bool false])
 | some ps=>∃v,e=.returned (.tuple #[v,.bool true])/\w'.ownsRow w.heap.size 262 2 v ps.length (qw6 ps)
theorem qc3{base e size n B:Nat}{w w':World}{v:Value}{xs:List Value}(h:w.ownsRow base e size v n xs)(hb:Below B w w')(hB:w.heap.size<=B):w'.ownsRow base e size v n xs:=by
 refine⟨h.1, ?_⟩;rcases h.2 with hn|⟨g,cap,cur,rfl,K7,J1,rest⟩
 ·exact .inl hn
 ·refine .inr ⟨g,cap,cur,rfl,K7, ?_,rest⟩
  rw[hb.block g (by have:=(Array.getElem?_eq_some_iff.1 J1).1;omega)];exact J1
theorem jn2{base e size n:Nat}{w:World}{v:Value}{xs:List Value}(h:w.ownsRow base e size v n xs):∀k,v.ownBlock=some k->base<=k:=λk hk=>(h.lt k hk).1
theorem Below.grown{B:Nat}{a w w':World}{row:Option Nat}(h:Below B a w)(hg:w.grownBy w' row)(hB:B<=w.heap.size)(J3:∀k,row=some k->B<=k):Below B a w':=
 ⟨hg.os.trans h.os,hg.tape.trans h.tape,hg.output.trans h.output,Nat.le_trans h.size hg.size,λk hk=>(hg.block k (by omega) (λe=>by have:=J3 k e.symm;omega)).trans (h.block k hk)⟩
theorem vu5{w wr w1 w2:World}{e:Nat}{v v':Value}{ps:List Pc}{q:Pc}{o:Obj}(G3:w2.ownsRow w.heap.size e 2 v' (ps.length+1) (qw6 ps++[.int .i64 q.kind,.int .u8 q.c.toNat]))(B7:(w1.alloc o).grownBy w2 v.ownBlock)
  (I4:w1.ownsRow w.heap.size e 2 v ps.length (qw6 ps)) (F2:Below w.heap.size w wr) (A7:Below wr.heap.size wr w1) :
  w2.ownsRow w.heap.size e 2 v' (ps++[q]).length (qw6 (ps++[q]))/\Below w.heap.size w w2:=by
 have h1:=F2.size;have h2:=A7.size;refine⟨by rw[jd5,List.length_append];exact G3, ?_⟩;exact Below.grown ((j6 F2 A7).alloc (by omega) o) B7 (by simp;omega) (jn2 I4)
theorem cut_any(p e:ByteArray)(hp:p.size<=200)(w:World):
  Calls prog 203 #[.string p,.string e] w (CutEnds w (qs5 e.data.toList p.data.toList)):=by
 obtain⟨R,hR⟩:∃r,qs5 e.data.toList p.data.toList=r:=⟨_,rfl⟩;rw[hR];have HR:=j3 hR;clear hR;obtain⟨i0,hi,I8,gB,gA⟩:=info_parts jw0;go_enter func203,ntmps203
 go_wp2_with fail
 go_loopw [6,7] (λv i wr=>∃(k:Nat) (ps:List Pc),k<=p.size/\ps.length<=k/\i=.int .i64 k/\Hid (R=(qs5 e.data.toList (p.data.toList.drop k)).map (ps++·))/\wr.ownsRow w.heap.size 262 2 v ps.length (qw6 ps)/\Below w.heap.size w wr) (λ_ i _=>p.size - (intOf i).toNat)
 case atStart=>exact⟨0,[],Nat.zero_le _,Nat.zero_le _,rfl,j3 (by rw[List.drop_zero,q9 HR];cases R<;>rfl),World.ownsRow_nil _ _ _ _,Below.refl _ _⟩
 case round=>
  obtain⟨k,ps,hk,lR,rfl,hh,C2,F2⟩:=hrel;have G9:=F2.size
  by_cases A1:k<p.size
  ·have cJ:p.data.toList[k]?=some p[k]:=by rw[List.getElem?_eq_getElem (by rw[qa5];exact A1),qb2 p k A1]
   have plainCase:¬e.data.toList.head?=some p[k]->Hid (R=(qs5 e.data.toList (p.data.toList.drop (k+1))).map ((ps++[qw8 p[k]])++·)):=λhn=>j3 (by rw[q9 hh,vr5 cJ hn];cases qs5 e.data.toList (p.data.toList.drop (k+1))<;>simp)
   by_cases he:0<e.size
   ·have C1:=jg3 he
    have sH:e.data.toList.head?=some e[0]:=by
     have:=List.getElem?_eq_getElem (l:=e.data.toList) (i:=0) (by rw[qa5];exact he);rw[qb2 e 0 he]at this;rw[List.head?_eq_getElem?];exact this
    cases hx:(p[k]==e[0]) with
    | false=>
     have HT:=plainCase (by rw[sH];intro h;injection h with h;rw[h]at hx;simp at hx);have M8:((p[k].toNat:Int)==(e[0].toNat:Int))=false:=by rw[vt5];exact hx
     clear plainCase hh cJ sH hx
     go_wp2_with fail
     go_quiet (fail)
     go_wp2_with(first|(go_at_call 250;refine(jd6 p[k] _).mono ?_;rintro en w1⟨rfl,cW⟩;have A7:Below wr.heap.size wr w1:=(below_drewN (Below.refl _ wr) _).trans cW;clear cW;have C8:=A7.size;have I4:=qc3 C2 A7 (Nat.le_refl _);simp only[pcV])|(at_builtin;refine wpList_append_own _ rfl _ _ 256 rfl w.heap.size 262 i0 (.agg #[.int .i64 0,.int .u8 0]) 2 16 underlying256 hi I8 gB gA rfl (by decide) _ _ _ rfl (I4.alloc _) ⟨w1.heap.size,0,none⟩ 1 1 [.int .i64 (qw8 p[k]).kind,.int .u8 (qw8 p[k]).c.toNat] rfl rfl ?c1 ?c2 ?c3 ?c4 ?c5 ?_))
     case c1=>
      intro j u hj
      match j,hj with
      | 0,hj=>simp at hj;subst hj;simp[Addr.add]
      | 1,hj=>simp at hj;subst hj;simp[Addr.add]
      | j+2,hj=>simp at hj
     case c2=>intro u hu;simp at hu;rcases hu with rfl|rfl<;>rfl
     case c3=>unfold maxLen;omega
     case c4=>omega
     case c5=>simp;omega
     ·intro v' w2 G3 B7 _
      have R:=vu5 G3 B7 I4 F2 A7;clear G3 B7 C2 I4
      go_wp2
      go_roundw
      case rel=>exact⟨k+1,_,by omega,by simp;omega,by go_num,HT,R.1,R.2⟩
      case measure=>simp[intOf];omega
    | true=>
     have mV:e.data.toList.head?=some p[k]:=by rw[sH,beq_iff_eq.1 hx]
     have M8:((p[k].toNat:Int)==(e[0].toNat:Int))=true:=by rw[vt5];exact hx
     by_cases hl:k+1<p.size
     ·have gJ:p.data.toList[k+1]?=some p[k+1]:=by rw[List.getElem?_eq_getElem (by rw[qa5];exact hl),qb2 p (k+1) hl]
      have HT:Hid (R=(qs5 e.data.toList (p.data.toList.drop (k+2))).map ((ps++[⟨0,p[k+1]⟩])++·)):=j3 (by rw[q9 hh,jq6 cJ mV gJ];cases qs5 e.data.toList (p.data.toList.drop (k+2))<;>simp);clear plainCase hh cJ sH hx gJ mV;have I0:(((k:Int)+1)==(p.size:Int))=false:=beq_eq_false_iff_ne.2 (by omega)
      go_wp2_with fail
      go_quiet (fail)
      have I4:=qc3 C2 (below_drewN (Below.refl _ wr) nq) (Nat.le_refl _)
      go_wp2_with(first|(at_builtin;refine wpList_append_own _ rfl _ _ 256 rfl w.heap.size 262 i0 (.agg #[.int .i64 0,.int .u8 0]) 2 16 underlying256 hi I8 gB gA rfl (by decide) _ _ _ rfl (I4.alloc _) ⟨wr.heap.size,0,none⟩ 1 1 [.int .i64 0,.int .u8 p[k+1].toNat] rfl rfl ?c1 ?c2 ?c3 ?c4 ?c5 ?_))
      case c1=>
       intro j u hj
       match j,hj with
       | 0,hj=>simp at hj;subst hj;simp[Addr.add];exact(World.cell?_alloc_at (w:=wr.drewN nq) _ _ _ _ rfl).trans rfl
       | 1,hj=>simp at hj;subst hj;simp[Addr.add];exact(World.cell?_alloc_at (w:=wr.drewN nq) _ _ _ _ rfl).trans rfl
       | j+2,hj=>simp at hj
      case c2=>intro u hu;simp at hu;rcases hu with rfl|rfl<;>rfl
      case c3=>unfold maxLen;omega
      case c4=>omega
      case c5=>simp;omega
      ·intro v' w2 G3 B7 _
       have R:=vu5 (q:=⟨0,p[k+1]⟩) G3 B7 I4 F2 (below_drewN (Below.refl _ wr) nq);clear G3 B7 C2 I4
       go_wp2
       go_roundw
       case rel=>exact⟨k+2,_,by omega,by simp;omega,by go_num,HT,R.1,R.2⟩
       case measure=>simp[intOf];omega
     ·have HT:Hid (R=none):=j3 (by rw[q9 hh,jb2 cJ mV (by rw[qa5];omega)];rfl)
      clear plainCase hh cJ sH hx mV;have I0:(((k:Int)+1)==(p.size:Int))=true:=beq_iff_eq.2 (by omega)
      go_wp2_with fail
      go_quiet (fail)
      go_wp2_with fail
      go_ret2
      rw[q9 HT];exact⟨below_drewN F2 _,rfl⟩
   ·have MR:e=⟨#[]⟩:=by cases e with|mk d=>simp[ByteArray.size]at he;simp[he]
    subst MR;have HT:=plainCase (by simp);clear plainCase hh cJ he
    go_wp2_with fail
    go_quiet (fail)
    go_wp2_with(first|(go_at_call 250;refine(jd6 p[k] _).mono ?_;rintro en w1⟨rfl,cW⟩;have A7:Below wr.heap.size wr w1:=(below_drewN (Below.refl _ wr) _).trans cW;clear cW;have C8:=A7.size;have I4:=qc3 C2 A7 (Nat.le_refl _);simp only[pcV])|(at_builtin;refine wpList_append_own _ rfl _ _ 256 rfl w.heap.size 262 i0 (.agg #[.int .i64 0,.int .u8 0]) 2 16 underlying256 hi I8 gB gA rfl (by decide) _ _ _ rfl (I4.alloc _) ⟨w1.heap.size,0,none⟩ 1 1 [.int .i64 (qw8 p[k]).kind,.int .u8 (qw8 p[k]).c.toNat] rfl rfl ?c1 ?c2 ?c3 ?c4 ?c5 ?_))
    case c1=>
     intro j u hj
     match j,hj with
     | 0,hj=>simp at hj;subst hj;simp[Addr.add]
     | 1,hj=>simp at hj;subst hj;simp[Addr.add]
     | j+2,hj=>simp at hj
    case c2=>intro u hu;simp at hu;rcases hu with rfl|rfl<;>rfl
    case c3=>unfold maxLen;omega
    case c4=>omega
    case c5=>simp;omega
    ·intro v' w2 G3 B7 _
     have R:=vu5 G3 B7 I4 F2 A7;clear G3 B7 C2 I4
     go_wp2
     go_roundw
     case rel=>exact⟨k+1,_,by omega,by simp;omega,by go_num,HT,R.1,R.2⟩
     case measure=>simp[intOf];omega
  ·have HT:Hid (R=some ps):=j3 (by rw[q9 hh,jq5 (by rw[qa5];omega)];simp)
   clear hh
   go_wp2_with fail
   go_ret2
   rw[q9 HT];exact⟨F2,_,rfl,C2⟩
theorem valid_any(p e:ByteArray)(hp:p.size<=200)(w:World):
  Calls prog 332 #[.string p,.string e] w λen w'=>en=.returned (.bool (qs5 e.data.toList p.data.toList).isSome)/\Below w.heap.size w w':=by
 cases hc:qs5 e.data.toList p.data.toList with
 | none=>
  have HC:=j3 hc;clear hc;go_enter func332,ntmps332
  go_wp2_with(go_at_call 203;refine(cut_any p e hp _).mono ?_;rintro en w1⟨A7,h1⟩;rw[q9 HC]at h1;subst h1)
  go_ret;exact⟨rfl,A7⟩
 | some ps=>
  have HC:=j3 hc;clear hc;go_enter func332,ntmps332
  go_wp2_with(go_at_call 203;refine(cut_any p e hp _).mono ?_;rintro en w1⟨A7,h1⟩;rw[q9 HC]at h1;obtain⟨v,rfl,C2⟩:=h1;clear C2)
  go_ret;exact⟨rfl,A7⟩
def Rng(n:Int):Prop:=-9223372036854775808<=n/\n<=9223372036854775807
structure Pr where
 name:List UInt8
 val:V
def EvAt(w:World)(b off:Nat)(ps:List Pr):Prop:=∀(k:Nat) (p:Pr),ps[k]?=some p ->
 w.cell? ⟨b,off+k * 4,none⟩=some (.string (BS p.name))/\w.cell? ⟨b,off+k * 4+1,none⟩=some (.int .i64 p.val.kind) /\
 w.cell? ⟨b,off+k * 4+2,none⟩=some (.int .i64 p.val.num)/\w.cell? ⟨b,off+k * 4+3,none⟩=some (.string (BS p.val.str))
theorem EvAt.below{w w':World}{b off:Nat}{ps:List Pr}(h:EvAt w b off ps)(hb:Below w.heap.size w w')(A1:b<w.heap.size):EvAt w' b off ps:=by
 intro k p hk;obtain⟨h1,h2,h3,h4⟩:=h k p hk;exact⟨(hb.cell A1).trans h1,(hb.cell A1).trans h2,(hb.cell A1).trans h3,(hb.cell A1).trans h4⟩
end Go.Proofs.YtfkcaldjphakpaaGreatDoor
