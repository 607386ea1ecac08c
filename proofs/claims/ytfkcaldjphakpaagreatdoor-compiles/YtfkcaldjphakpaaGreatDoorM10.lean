/- digits. -/
import Derived.Test.YtfkcaldjphakpaaGreatDoorM02
import Derived.Laws.Concat
set_option maxHeartbeats 8000000
namespace Go.Proofs.YtfkcaldjphakpaaGreatDoor
open Go.RowKit Go.Proofs.Tryz
def dig(n:Nat):UInt8:=UInt8.ofNat (48+n % 10)
def vk7(n:Nat):List UInt8:=if n<10 then[dig n] else vk7 (n / 10)++[dig n]
termination_by n
theorem qy4{n:Nat}(h:n<10):vk7 n=[dig n]:=by rw[vk7,if_pos h]
theorem vb6{n:Nat}(h:¬n<10):vk7 n=vk7 (n / 10)++[dig n]:=by rw[vk7,if_neg h]
theorem jj8(n:Nat):(dig n).toNat=48+n % 10:=by
 unfold dig;rw[UInt8.toNat_ofNat'];omega
theorem qj5(a b:List UInt8):BS a++BS b=BS (a++b):=by
 apply ByteArray.ext;show(BS a++BS b).data=_;rw[ByteArray.data_append];simp[BS]
theorem qh7(c:Int)(w:World):Calls prog 181 #[.int .u8 c] w λe w'=>e=.returned (.bool (vg6 c))/\w'=w:=by
 unfold vg6;go_enter func181,ntmps181
 go_wp2
 all_goals(go_ret;exact⟨qn4 (by simp<;>omega),rfl⟩)
theorem qk5(c:Int)(w:World):Calls prog 230 #[.int .u8 c] w λe w'=>e=.returned (.bool (ve3 c))/\w'=w:=by
 unfold ve3;go_enter func230,ntmps230
 go_wp2
 all_goals(go_ret;exact⟨qn4 (by simp<;>omega),rfl⟩)
theorem je4(s:ByteArray)(w:World):Calls prog 232 #[.string s] w λe w'=>e=.returned (.bool (kwK s.data.toList != 2))/\w'=w:=by
 go_enter func232,ntmps232
 go_wp2_with fail
 all_goals
  go_ret;refine⟨?_,rfl⟩;simp only[Lib.toList_data]at *
  first
  | (rename_i h1 h2;rw[h1]at h2;cases h2;done)
  | (have hk:(kwK s.data.toList != 2)=true:=(by simp only[kwK, *,if_true,Bool.false_eq_true,if_false];rfl);rw[hk];rfl)
  | (have hk:(kwK s.data.toList != 2)=false:=(by simp only[kwK, *,Bool.false_eq_true,if_false];rfl);rw[hk];rfl)
theorem jq3(c:UInt8)(w:World):(convert 51 9 (.slice (some ⟨w.heap.size,0,none⟩) 1 1)).run prog (w.alloc (.cells #[.int .u8 (c.toNat:Int)] 5))=.ok (.string (BS [c])) (w.alloc (.cells #[.int .u8 (c.toNat:Int)] 5)):=by
 refine run_convert_bytes_back (P:=prog) _ 51 9 5 ⟨w.heap.size,0,none⟩ 1 [c] underlying51 underlying5 underlying9 ?_;intro j hj;obtain rfl:j=0:=by simp at hj;omega
 show(w.alloc _).cell? ⟨w.heap.size,0,none⟩=some (.int .u8 (c.toNat:Int));rw[World.cell?_alloc_at _ _ _ _ rfl];rfl
theorem upper_low{c:UInt8}(h:97<=c.toNat/\c.toNat<=122):((Lib.upperB c).toNat:Int)=(c.toNat:Int) - 32:=by
 have e:Lib.isLowerB c=true:=by
  unfold Lib.isLowerB;simp only[Bool.and_eq_true,decide_eq_true_eq,UInt8.le_iff_toNat_le];exact h
 unfold Lib.upperB;rw[if_pos e,UInt8.toNat_sub_of_le _ _ (by rw[UInt8.le_iff_toNat_le];show 32<=c.toNat;omega)];show((c.toNat - 32:Nat):Int)=_;omega
theorem upper_not{c:UInt8}(h:¬(97<=c.toNat/\c.toNat<=122)):Lib.upperB c=c:=by
 have e:¬Lib.isLowerB c=true:=by
  unfold Lib.isLowerB;simp only[Bool.and_eq_true,decide_eq_true_eq,UInt8.le_iff_toNat_le];exact h
 unfold Lib.upperB;rw[if_neg e]
theorem za6{s:ByteArray}{k:Nat}(h:k<s.size):Lib.toUpperA (s.data.toList.take (k+1))=Lib.toUpperA (s.data.toList.take k)++[Lib.upperB s[k]]:=by
 unfold Lib.toUpperA;rw[List.take_add_one,List.map_append,List.getElem?_eq_getElem (by rw[qa5];exact h),qb2 s k h];rfl
theorem rcap_any(s:ByteArray)(hs:s.size<=1000)(w:World):Calls prog 231 #[.string s] w λe w'=>e=.returned (.string (BS (Lib.toUpperA s.data.toList)))/\Below w.heap.size w w':=by
 have HB:=j3 (Below.refl w.heap.size w);go_enter func231,ntmps231
 go_wp2_with fail
 go_loopw [3,4] (λo i wr=>∃k:Nat,k<=s.size/\i=.int .i64 k/\o=.string (BS (Lib.toUpperA (s.data.toList.take k)))/\Hid (Below w.heap.size w wr)) (λ_ i _=>s.size - (intOf i).toNat)
 case atStart=>exact⟨0,Nat.zero_le _,rfl,rfl,HB⟩
 case round=>
  obtain⟨k,hk,rfl,rfl,B⟩:=hrel
  by_cases A1:k<s.size
  ·have EK:=za6 A1
   have O9:∀w:World,(Op.stringOp .add (BS (Lib.toUpperA (s.data.toList.take k))) (BS [Lib.upperB s[k]])).run prog w=.ok (.string (BS (Lib.toUpperA (s.data.toList.take (k+1))))) w:=λw=>by
    rw[EK,←qj5];exact run_string_add_sum (P:=prog) (w:=w) _ _ (by rw[qc1,qc1];simp[Lib.toUpperA];omega)
   generalize BS (Lib.toUpperA (s.data.toList.take k))=O1 at O9 ⊢;generalize tE:BS (Lib.toUpperA (s.data.toList.take (k+1)))=O2 at O9;have P4:=j3 tE;have sO:=jq3 (Lib.upperB s[k]);have aM:(0:Int)<=(s[k].toNat:Int):=by omega
   have F1:(s[k].toNat:Int)<256:=by have:=s[k].toNat_lt;omega
   clear EK tE
   by_cases hl:97<=s[k].toNat/\s[k].toNat<=122
   ·rw[upper_low hl]at sO
    have h1:(97:Int)<=(s[k].toNat:Int):=by omega
    have h2:(s[k].toNat:Int)<=122:=by omega
    go_wp2_with fail
    exact⟨⟨k+1,by omega,rfl,by rw[q9 P4],j3 (j6 (q9 B) ((Below.refl _ _).alloc (Nat.le_refl _) _))⟩,by simp[intOf];omega⟩
   ·rw[upper_not hl]at sO O9
    by_cases h1:97<=s[k].toNat
    ·have AO:(97:Int)<=(s[k].toNat:Int):=by omega
     have OD:¬(s[k].toNat:Int)<=122:=by omega
     go_wp2_with fail
     exact⟨⟨k+1,by omega,rfl,by rw[q9 P4],j3 (j6 (q9 B) ((Below.refl _ _).alloc (Nat.le_refl _) _))⟩,by simp[intOf];omega⟩
    ·have AO:¬(97:Int)<=(s[k].toNat:Int):=by omega
     go_wp2_with fail
     exact⟨⟨k+1,by omega,rfl,by rw[q9 P4],j3 (j6 (q9 B) ((Below.refl _ _).alloc (Nat.le_refl _) _))⟩,by simp[intOf];omega⟩
  ·obtain rfl:k=s.size:=by omega
   rw[List.take_of_length_le (by rw[qa5];exact Nat.le_refl _)]
   go_wp2_with fail
   go_ret;exact⟨rfl,q9 B⟩
def rtV(k a t:Int)(S:List UInt8)(n:Int):Value:=.agg #[.int .i64 k,.int .i64 a,.int .i64 t,.string (BS S),.int .i64 n]
def kwT(k:Int):List UInt8:=
 if k=5 then[65,78,68] else if k=6 then[79,82] else if k=7 then[78,79,84] else if k=8 then[84,82,85,69] else if k=9 then[70,65,76,83,69]
 else if k=10 then[66,69,84,87,69,69,78] else if k=11 then[73,78] else if k=12 then[76,73,75,69] else if k=13 then[69,83,67,65,80,69] else if k=14 then[73,83]
 else if k=15 then[78,85,76,76] else if k=16 then[61] else if k=17 then[60,62] else if k=18 then[60] else if k=19 then[60,61] else if k=20 then[62] else if k=21 then[62,61]
 else if k=22 then[43] else if k=23 then[45] else if k=24 then[42] else if k=25 then[47] else if k=26 then[40] else if k=27 then[41] else if k=28 then[44] else[]
def rK(k:Int):Int:=if k<=4 then k else if k<=15 then 6 else 5
def rS(t:Tk):List UInt8:=if t.kind=2\/t.kind=4 then t.str else kwT t.kind
def rTk(t:Tk)(a z:Nat):Value:=if t.kind=1 then rtV 1 a 0 [] 0 else rtV (rK t.kind) a z (rS t) t.num
theorem kw_text{l:List UInt8}(h:kwK l≠2):kwT (kwK l)=l/\5<=kwK l/\kwK l<=15:=by
 by_cases e0:l=[65,78,68]
 ·subst e0;exact⟨rfl,by decide,by decide⟩
 by_cases e1:l=[79,82]
 ·subst e1;exact⟨rfl,by decide,by decide⟩
 by_cases e2:l=[78,79,84]
 ·subst e2;exact⟨rfl,by decide,by decide⟩
 by_cases e3:l=[84,82,85,69]
 ·subst e3;exact⟨rfl,by decide,by decide⟩
 by_cases e4:l=[70,65,76,83,69]
 ·subst e4;exact⟨rfl,by decide,by decide⟩
 by_cases e5:l=[66,69,84,87,69,69,78]
 ·subst e5;exact⟨rfl,by decide,by decide⟩
 by_cases e6:l=[73,78]
 ·subst e6;exact⟨rfl,by decide,by decide⟩
 by_cases e7:l=[76,73,75,69]
 ·subst e7;exact⟨rfl,by decide,by decide⟩
 by_cases e8:l=[69,83,67,65,80,69]
 ·subst e8;exact⟨rfl,by decide,by decide⟩
 by_cases e9:l=[73,83]
 ·subst e9;exact⟨rfl,by decide,by decide⟩
 by_cases iK:l=[78,85,76,76]
 ·subst iK;exact⟨rfl,by decide,by decide⟩
 exact absurd (by unfold kwK;simp[e0,e1,e2,e3,e4,e5,e6,e7,e8,e9,iK]) h
theorem word_run{l:List UInt8}{c:UInt8}{t:List UInt8}(hl:l=c::t)(hb:qs3 c=true):qa8 l=qa3 qv5 l:=by
 subst hl;have:qv5 c=true:=by unfold qv5 goeB;unfold qs3 at hb;simp[hb]
 simp[qa8,hb,qa3,this]
theorem rTk_kw{k:Int}{U:List UInt8}(h1:kwT k=U)(h2:5<=k)(h3:k<=15)(a z:Nat):rTk (j7 k) a z=rtV 6 a z U 0:=by
 unfold rTk;rw[if_neg (show ¬(j7 k).kind=1 by show ¬k=1;omega)];have e1:rK (j7 k).kind=6:=by show rK k=6;unfold rK;rw[if_neg (by omega),if_pos h3]
 have e2:rS (j7 k)=U:=by
  unfold rS;rw[if_neg (show ¬((j7 k).kind=2\/(j7 k).kind=4) by show ¬(k=2\/k=4);omega)];exact h1
 rw[e1,e2];rfl
theorem rTk_name(S:List UInt8)(a z:Nat):rTk ⟨2,0,S⟩ a z=rtV 2 a z S 0:=by simp[rTk,rK,rS]
theorem rword_any(s:ByteArray)(hs:s.size<=200)(p:Nat)(hp:p<s.size)(hb:qs3 s[p]=true)(w:World):
  Calls prog 182 #[.string s,.int .i64 p] w λe w'=>e=.returned (rTk (qh4 (s.data.toList.drop p)) p (p+qa8 (s.data.toList.drop p)))/\Below w.heap.size w w':=by
 have hl:=qa5 s
 have hd:s.data.toList.drop p=s[p]::s.data.toList.drop (p+1):=by
  rw[List.drop_eq_getElem_cons (by rw[qa5];exact hp),qb2 s p hp]
 have EG:=word_run hd hb;have N8:=qr1 (s.data.toList.drop p);rw[List.length_drop,qa5]at N8;obtain⟨z,hz⟩:∃z,qa8 (s.data.toList.drop p)=z:=⟨_,rfl⟩;have hx:(s.extract p (p+z)).data.toList=(s.data.toList.drop p).take z:=by rw[Lib.extract_data];simp
 have hT:qh4 (s.data.toList.drop p)=if vb0 ((s.data.toList.drop p).take z)=2 then⟨2,0,(s.data.toList.drop p).take z⟩ else j7 (vb0 ((s.data.toList.drop p).take z)):=by rw[←hz];rfl
 rw[hT,hz];rw[hz]at EG N8;obtain⟨W,hW⟩:∃W,s.extract p (p+z)=W:=⟨_,rfl⟩;rw[hW]at hx
 have NE:W.size<=1000:=by
  have:=congrArg List.length hx;rw[qa5,List.length_take,List.length_drop,qa5]at this;omega
 rw[←hx];have CAP:=j3 (rcap_any W NE);obtain⟨U,hU⟩:∃U,Lib.toUpperA W.data.toList=U:=⟨_,rfl⟩;have hK:vb0 W.data.toList=kwK U:=by unfold vb0;rw[hU]
 rw[hU]at CAP;rw[hK];have KEY:Hid (∀w,Calls prog 232 #[.string (BS U)] w λe w'=>e=.returned (.bool (kwK U != 2))/\w'=w):=j3 λw=>je4 (BS U) w
 have IA:=j3 hW;have dO:Hid (z=qa3 qv5 (s.data.toList.drop p)+0):=j3 (by omega);obtain⟨kk,fQ⟩:∃kk,(kwK U != 2)=kk:=⟨_,rfl⟩;rw[fQ]at KEY;obtain⟨R,hR⟩:∃R,rTk (if kwK U=2 then⟨2,0,W.data.toList⟩ else j7 (kwK U)) p (p+z)=R:=⟨_,rfl⟩;rw[hR]
 have iN:Hid (kk=true->R=rtV 6 p (p+z:Nat) U 0):=j3 λe=>by
  have C1:kwK U≠2:=by rw[e]at fQ;simpa using fQ
  rw[if_neg C1]at hR;obtain⟨q1,q2,q3⟩:=kw_text C1;rw[←hR,rTk_kw q1 q2 q3]
 have aD:Hid (kk=false->R=rtV 2 p (p+z:Nat) W.data.toList 0):=j3 λe=>by
  have C1:kwK U=2:=by rw[e]at fQ;simpa using fQ
  rw[if_pos C1]at hR;rw[←hR,rTk_name]
 clear hR hd EG hz hT hx hU hK fQ hb hW;go_enter func182,ntmps182
 go_wp2_with fail
 go_loop [5] (λi=>∃k:Nat,p<=k/\k<=s.size/\i=.int .i64 k/\Hid (z+p=qa3 qv5 (s.data.toList.drop k)+k)) (λi=>s.size - (intOf i).toNat)
 case atStart=>exact⟨p,Nat.le_refl _,by omega,rfl,j3 (by have:=q9 dO;omega)⟩
 case round=>
  obtain⟨k,lR,hk,rfl,hr⟩:=hrel
  by_cases Z1:∃A1:k<s.size,qv5 s[k]=true
  ·obtain⟨A1,hg⟩:=Z1
   have A5:=qe9 qv5 s.data.toList k (by omega) hg;have HR:Hid (z+p=qa3 qv5 (s.data.toList.drop (k+1))+(k+1)):=j3 (by rw[q9 hr,A5];omega);clear A5 hr CAP KEY
   cases K7:qs3 s[k] with
   | true=>
    have Hb:=j3 K7;clear hg K7
    go_wp2_with(first|(go_at_call 181;refine(qh7 _ _).mono ?_;rintro e w'⟨rfl,rfl⟩;rw[show vg6 (s[k].toNat:Int)=true from q9 Hb]))
    go_round
    case rel=>exact⟨k+1,by omega,by omega,by go_num,HR⟩
    case measure=>simp[intOf];omega
   | false=>
    have Hb:=j3 K7
    cases V8:qh3 s[k] with
    | true=>
     have Hd:=j3 V8;clear hg K7 V8
     go_wp2_with(first|(go_at_call 181;refine(qh7 _ _).mono ?_;rintro e w'⟨rfl,rfl⟩;rw[show vg6 (s[k].toNat:Int)=false from q9 Hb])|(go_at_call 230;refine(qk5 _ _).mono ?_;rintro e w'⟨rfl,rfl⟩;rw[show ve3 (s[k].toNat:Int)=true from q9 Hd]))
     go_round
     case rel=>exact⟨k+1,by omega,by omega,by go_num,HR⟩
     case measure=>simp[intOf];omega
    | false=>
     have Hd:=j3 V8
     have QD:Hid ((s[k].toNat:Int)=46):=j3 (by
      unfold qv5 goeB at hg;unfold qs3 at K7;unfold qh3 at V8;rw[K7,V8]at hg
      simpa using hg)
     clear hg K7 V8
     go_wp2_with(first|(go_at_call 181;refine(qh7 _ _).mono ?_;rintro e w'⟨rfl,rfl⟩;rw[show vg6 (s[k].toNat:Int)=false from q9 Hb])|(go_at_call 230;refine(qk5 _ _).mono ?_;rintro e w'⟨rfl,rfl⟩;rw[show ve3 (s[k].toNat:Int)=false from q9 Hd];have GM:=q9 QD))
     go_round
     case rel=>exact⟨k+1,by omega,by omega,by go_num,HR⟩
     case measure=>simp[intOf];omega
  ·have iV:z+p=k:=by
    by_cases A1:k<s.size
    ·have hg:qv5 s[k]=false:=by cases hg:qv5 s[k] with|false=>rfl|true=>exact absurd ⟨A1,hg⟩ Z1
     have:=qf9 qv5 s.data.toList k (by omega) hg;rw[q9 hr,this];omega
    ·have:=qh0 qv5 s.data.toList k (by omega)
     rw[q9 hr,this];omega
   have Hg:Hid (∀A1:k<s.size,qs3 s[k]=false/\qh3 s[k]=false/\¬(s[k].toNat:Int)=46):=j3 λA1=>by
    have hg:qv5 s[k]=false:=by cases hg:qv5 s[k] with|false=>rfl|true=>exact absurd ⟨A1,hg⟩ Z1
    unfold qv5 goeB at hg;simp only[Bool.or_eq_false_iff,beq_eq_false_iff_ne]at hg;exact⟨hg.1.1,hg.1.2,hg.2⟩
   have mJ:Hid (s.extract p k=W):=j3 (by rw[←iV,Nat.add_comm z p];exact q9 IA);have HZ:Hid (z+p=k):=j3 iV;clear hr Z1 iV IA dO
   cases kk with
   | true=>
    by_cases A1:k<s.size
    all_goals
     go_wp2_with(first|(go_at_call 181;refine(qh7 _ _).mono ?_;rintro e w'⟨rfl,rfl⟩;rw[show vg6 (s[k].toNat:Int)=false from(q9 Hg A1).1])|(go_at_call 230;refine(qk5 _ _).mono ?_;rintro e w'⟨rfl,rfl⟩;rw[show ve3 (s[k].toNat:Int)=false from(q9 Hg A1).2.1];have GM:=(q9 Hg A1).2.2)|(go_at_call 231;rw[q9 mJ];refine(q9 CAP _).mono ?_;rintro e w1⟨rfl,A7⟩;obtain⟨hc,hf⟩:=qb0 A7;have C8:=A7.size;have B1:=j3 A7;clear A7;have c0:w1.cell? ⟨w.heap.size,0,none⟩=some (.int .i64 0):=(hc _ 0 (by simp;omega)).trans (by rw[World.cell?_alloc_past _ _ _ (by simp)];simp);have c1:w1.cell? ⟨w.heap.size,1,none⟩=some (.int .i64 0):=(hc _ 1 (by simp;omega)).trans (by rw[World.cell?_alloc_past _ _ _ (by simp)];simp);have c2:w1.cell? ⟨w.heap.size,2,none⟩=some (.int .i64 0):=(hc _ 2 (by simp;omega)).trans (by rw[World.cell?_alloc_past _ _ _ (by simp)];simp);have c3:w1.cell? ⟨w.heap.size,3,none⟩=some (.string ⟨#[]⟩):=(hc _ 3 (by simp;omega)).trans (by rw[World.cell?_alloc_past _ _ _ (by simp)];simp);have c4:w1.cell? ⟨w.heap.size,4,none⟩=some (.int .i64 0):=(hc _ 4 (by simp;omega)).trans (by rw[World.cell?_alloc_past _ _ _ (by simp)];simp))|(go_at_call 232;refine(q9 KEY _).mono ?_;rintro e w2⟨rfl,rfl⟩))
     refine bodyPost_ret (by simp[results,results182,go_sem,c0,c1,c2,c3,c4]<;>rfl) rfl ⟨?_, ?_⟩
     all_goals go_light
     ·rw[q9 iN trivial,show((p+z:Nat):Int)=(k:Int) by have:=q9 HZ;omega]
      rfl
     ·exact(((((((qc8 (qc8 (q9 B1))).setCell (by simp) _).setCell (by simp) _).setCell (by simp) _).setCell (by simp) _).setCell (by simp) _).setCell (by simp) _).setCell (by simp) _
   | false=>
    by_cases A1:k<s.size
    all_goals
     go_wp2_with(first|(go_at_call 181;refine(qh7 _ _).mono ?_;rintro e w'⟨rfl,rfl⟩;rw[show vg6 (s[k].toNat:Int)=false from(q9 Hg A1).1])|(go_at_call 230;refine(qk5 _ _).mono ?_;rintro e w'⟨rfl,rfl⟩;rw[show ve3 (s[k].toNat:Int)=false from(q9 Hg A1).2.1];have GM:=(q9 Hg A1).2.2)|(go_at_call 231;rw[q9 mJ];refine(q9 CAP _).mono ?_;rintro e w1⟨rfl,A7⟩;obtain⟨hc,hf⟩:=qb0 A7;have C8:=A7.size;have B1:=j3 A7;clear A7;have c0:w1.cell? ⟨w.heap.size,0,none⟩=some (.int .i64 0):=(hc _ 0 (by simp;omega)).trans (by rw[World.cell?_alloc_past _ _ _ (by simp)];simp);have c1:w1.cell? ⟨w.heap.size,1,none⟩=some (.int .i64 0):=(hc _ 1 (by simp;omega)).trans (by rw[World.cell?_alloc_past _ _ _ (by simp)];simp);have c2:w1.cell? ⟨w.heap.size,2,none⟩=some (.int .i64 0):=(hc _ 2 (by simp;omega)).trans (by rw[World.cell?_alloc_past _ _ _ (by simp)];simp);have c3:w1.cell? ⟨w.heap.size,3,none⟩=some (.string ⟨#[]⟩):=(hc _ 3 (by simp;omega)).trans (by rw[World.cell?_alloc_past _ _ _ (by simp)];simp);have c4:w1.cell? ⟨w.heap.size,4,none⟩=some (.int .i64 0):=(hc _ 4 (by simp;omega)).trans (by rw[World.cell?_alloc_past _ _ _ (by simp)];simp))|(go_at_call 232;refine(q9 KEY _).mono ?_;rintro e w2⟨rfl,rfl⟩))
     refine bodyPost_ret (by simp[results,results182,go_sem,c0,c1,c2,c3,c4]<;>rfl) rfl ⟨?_, ?_⟩
     all_goals go_light
     ·rw[q9 aD trivial,show((p+z:Nat):Int)=(k:Int) by have:=q9 HZ;omega]
      rfl
     ·exact(((((qc8 (qc8 (q9 B1))).setCell (by simp) _).setCell (by simp) _).setCell (by simp) _).setCell (by simp) _).setCell (by simp) _
end Go.Proofs.YtfkcaldjphakpaaGreatDoor
