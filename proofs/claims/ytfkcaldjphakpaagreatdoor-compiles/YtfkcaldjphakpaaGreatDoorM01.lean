/- Contracts of lex.wordKind and lex.word. -/
import Derived.Test.YtfkcaldjphakpaaGreatDoorM00
import Derived.Test.YtfkcaldjphakpaaGreatDoorShelf
import Derived.Lib.AtoiErrMem
import Derived.Laws.IdiomStrings
set_option maxHeartbeats 3200000
set_option maxRecDepth 100000
namespace Go.Proofs.YtfkcaldjphakpaaGreatDoor
open Go.RowKit Go.Proofs.Tryz
def kwK(l:List UInt8):Int:=
 if l==[65,78,68] then 5 else if l==[79,82] then 6 else if l==[78,79,84] then 7 else if l==[84,82,85,69] then 8
 else if l==[70,65,76,83,69] then 9 else if l==[66,69,84,87,69,69,78] then 10 else if l==[73,78] then 11
 else if l==[76,73,75,69] then 12 else if l==[69,83,67,65,80,69] then 13 else if l==[73,83] then 14
 else if l==[78,85,76,76] then 15 else 2
def vb0(l:List UInt8):Int:=kwK (Lib.toUpperA l)
theorem asciiAt{l:List UInt8}(h:∀c∈l,c.toNat<128):∀(j:Nat) (b:UInt8),l[j]?=some b->b.toNat<128:=
 λ_ _ hj=>h _ (List.mem_of_getElem? hj)
theorem vh2(s:ByteArray)(hs:s.size<=140737488355328)(ha:∀c∈s.data.toList,c.toNat<128)(w:World):
  Calls prog 151 #[.string s] w λe w'=>e=.returned (.int .i64 (vb0 s.data.toList))/\Below w.heap.size w w':=by
 have Ha:=j3 (asciiAt ha);clear ha;unfold vb0;obtain⟨u,hu⟩:∃u,Lib.toUpperA s.data.toList=u:=⟨_,rfl⟩;rw[hu];have Hu:=j3 hu;clear hu;go_enter func151,ntmps151
 go_wp2_with(go_at_call 202;refine(Tryz.strings_ToUpper_ascii _ _ hs (q9 Ha)).mono ?_;rintro e w'⟨rfl,hb⟩;rw[q9 Hu])
 all_goals(go_ret;refine⟨qg3 ?_,by assumption⟩;go_light;simp only[kwK, *,if_true,Bool.false_eq_true,if_false])
theorem goe_ascii{c:UInt8}(h:qv5 c=true):c.toNat<128:=by
 simp[qv5,goeB,vg6,ve3]at h;omega
theorem beg_ascii{c:UInt8}(h:qs3 c=true):c.toNat<128:=by
 simp[qs3,vg6]at h;omega
theorem vs8(p:UInt8->Bool)(l:List UInt8):∀c∈l.take (qa3 p l),p c=true:=by
 induction l with
 | nil=>simp[qa3]
 | cons d t ih=>
  intro c hc
  by_cases hd:p d=true
  ·simp only[qa3,hd,if_true,List.take_succ_cons,List.mem_cons]at hc
   rcases hc with rfl|hc
   ·exact hd
   ·exact ih c hc
  ·simp[qa3,hd]at hc
theorem qr1(l:List UInt8):qa8 l<=l.length:=by
 cases l with
 | nil=>simp[qa8]
 | cons c t=>have:=qx6 qv5 t;simp only[qa8];split<;>simp<;>omega
theorem zb2(l:List UInt8):∀c∈l.take (qa8 l),c.toNat<128:=by
 cases l with
 | nil=>simp
 | cons d t=>
  intro c hc
  by_cases hd:qs3 d=true
  ·simp only[qa8,hd,if_true,List.take_succ_cons,List.mem_cons]at hc
   rcases hc with rfl|hc
   ·exact beg_ascii hd
   ·exact goe_ascii (vs8 qv5 t c hc)
  ·simp[qa8,hd]at hc
def qh4(l:List UInt8):Tk:=if vb0 (l.take (qa8 l))=2 then⟨2,0,l.take (qa8 l)⟩ else j7 (vb0 (l.take (qa8 l)))
theorem qu8{w:Tk}{k n:Int}{b:ByteArray}{z z':Int}(hk:k=w.kind)(hn:n=w.num)(hs:b=BS w.str)(hz:z=z'):
  Ending.returned (.tuple #[.agg #[.int .i64 k,.int .i64 0,.int .i64 n,.string b],.int .i64 z])=.returned (.tuple #[tkV w 0,.int .i64 z']):=by
 rw[hk,hn,hs,hz];rfl
theorem clone_any(s:ByteArray)(w:World)(hs:s.size<=281474976710656):
  Calls prog 39 #[.string s] w λe w'=>e=.returned (.string s)/\Below w.heap.size w w':=by
 go_enter func39,ntmps39
 go_wp2_with(go_at_call 66;refine(Tryz.stringslite_Clone s _ hs).mono ?_;rintro e w1⟨rfl,A7⟩)
 go_ret;exact⟨rfl,A7⟩
theorem word_any(s:ByteArray)(hs:s.size<=140737488355328)(w:World):
  Calls prog 191 #[.string s] w λe w'=>e=.returned (.tuple #[tkV (qh4 s.data.toList) 0,.int .i64 (qa8 s.data.toList)])/\Below w.heap.size w w':=by
 have N8:=qr1 s.data.toList;rw[qa5]at N8;have hx:(s.extract 0 (qa8 s.data.toList)).data.toList=s.data.toList.take (qa8 s.data.toList):=by rw[Lib.extract_data];simp
 have hm:s.size<=maxLen:=by unfold maxLen;omega
 have Ha:=j3 (zb2 s.data.toList);obtain⟨z,hz⟩:∃z,qa8 s.data.toList=z:=⟨_,rfl⟩;have Hk:Hid (qh4 s.data.toList=if vb0 (s.data.toList.take z)=2 then⟨2,0,s.data.toList.take z⟩ else j7 (vb0 (s.data.toList.take z))):=by rw[←hz];exact j3 rfl
 rw[hz]at N8 hx Ha ⊢;have Hx:=j3 hx;have Hz:=j3 hz;clear hx hz;obtain⟨k,hk⟩:∃k,vb0 (s.data.toList.take z)=k:=⟨_,rfl⟩;have mI:=j3 hk;clear hk
 by_cases h2:k=2
 ·have h2'':(k != 2)=false:=by simp[h2]
  have H2:=j3 h2;clear h2;go_enter func191,ntmps191
  go_wp2_with(first|(go_at_call 150;refine(vh3 _ hm _).mono ?_;rintro e w'⟨rfl,rfl⟩;rw[q9 Hz])|(go_at_call 151;refine(vh2 _ (by simp;omega) (by rw[q9 Hx];exact q9 Ha) _).mono ?_;rintro e w'⟨rfl,hb⟩;obtain⟨hc,hf⟩:=qb0 hb;have hz:=hb.size;rw[q9 Hx,q9 mI])|(go_at_call 39;refine(clone_any _ _ (by simp;omega)).mono ?_;rintro e w2⟨rfl,B9⟩;have C8:w.heap.size<w'.heap.size:=(by simp at hz;omega);have F8:w.heap.size<w2.heap.size:=(by have:=B9.size;omega);have c0:w2.cell? ⟨w.heap.size,0,none⟩=some (.int .i64 0):=((qb0 B9).1 _ 0 C8).trans ((hc _ 0 (by simp)).trans (by simp));have c1:w2.cell? ⟨w.heap.size,1,none⟩=some (.int .i64 0):=((qb0 B9).1 _ 1 C8).trans ((hc _ 1 (by simp)).trans (by simp));have c2:w2.cell? ⟨w.heap.size,2,none⟩=some (.int .i64 0):=((qb0 B9).1 _ 2 C8).trans ((hc _ 2 (by simp)).trans (by simp));have c3:w2.cell? ⟨w.heap.size,3,none⟩=some (.string ⟨#[]⟩):=((qb0 B9).1 _ 3 C8).trans ((hc _ 3 (by simp)).trans (by simp));have z0:∀j,w2.frozen? ⟨w.heap.size,j,none⟩=false:=(λj=>((qb0 B9).2 _ j C8).trans ((hf _ j (by simp)).trans (by simp)));have hB:=j3 (hb.trans (B9.mono hb.size));clear hb B9 hc hf hz))
  refine bodyPost_ret (by simp[results,results191,go_sem,c0,c1,c2,c3];rfl) rfl ⟨?_, ?_⟩
  all_goals go_light
  ·exact qu8 (by rw[q9 Hk,q9 mI,if_pos (q9 H2)]) (by rw[q9 Hk,q9 mI,if_pos (q9 H2)]) (by rw[q9 Hk,q9 mI,if_pos (q9 H2),←q9 Hx];rfl) rfl
  ·exact((((qc8 (q9 hB)).setCell (by simp) _).setCell (by simp) _).setCell (by simp) _).setCell (by simp) _
 ·have h2'':(k != 2)=true:=by simp[h2]
  have H2:=j3 h2;clear h2;go_enter func191,ntmps191
  go_wp2_with(first|(go_at_call 150;refine(vh3 _ hm _).mono ?_;rintro e w'⟨rfl,rfl⟩;rw[q9 Hz])|(go_at_call 151;refine(vh2 _ (by simp;omega) (by rw[q9 Hx];exact q9 Ha) _).mono ?_;rintro e w'⟨rfl,hb⟩;obtain⟨hc,hf⟩:=qb0 hb;have hz:=hb.size;rw[q9 Hx,q9 mI]))
  refine bodyPost_ret (by simp[results,results191,go_sem,hc];rfl) rfl ⟨?_, ?_⟩
  all_goals go_light
  ·exact qu8 (by rw[q9 Hk,q9 mI,if_neg (q9 H2)];rfl) (by rw[q9 Hk,q9 mI,if_neg (q9 H2)];rfl) (by rw[q9 Hk,q9 mI,if_neg (q9 H2)];rfl) rfl
  ·exact((((qc8 hb).setCell (by simp) _).setCell (by simp) _).setCell (by simp) _).setCell (by simp) _
def qp5(l:List UInt8):Tk:=if qf4 0 (l.take (qa3 qh3 l))<=9223372036854775807 then⟨3,qf4 0 (l.take (qa3 qh3 l)),[]⟩ else j7 1
theorem digs_of(l:List UInt8):∀c∈l.take (qa3 qh3 l),48<=c.toNat/\c.toNat<=57:=by
 intro c hc;have:=vs8 qh3 l c hc;simp[qh3,ve3]at this;omega
theorem parse_ok(s:ByteArray)(hs:s.size<=140737488355328)(v:Int)(h:Lib.parseIntB 64 s.data.toList=.ok v)(w:World):
  Calls prog 239 #[.string s,.int .i64 10,.int .i64 64] w λe w'=>e=.returned (.tuple #[.int .i64 v,.nilIface])/\Below w.heap.size w w':=by
 refine(Tryz.strconv_ParseInt_10_at64_ok s (by omega) v h w).mono ?_;rintro e w'⟨rfl,rfl|⟨t,rfl⟩⟩
 ·exact⟨rfl,Below.refl _ _⟩
 ·exact⟨rfl,Lib.bytesWorld_below _ _ _⟩
theorem jn4(s:ByteArray)(hs:s.size<=140737488355328)(h:Lib.parseIntB 64 s.data.toList=.range)(w:World)(hE:ErrOk w):
  Calls prog 239 #[.string s,.int .i64 10,.int .i64 64] w λe w'=>(∃x t p,e=.returned (.tuple #[.int .i64 x,.iface t p]))/\Below w.heap.size w w':=by
 obtain⟨_,ev,h2,h3⟩:=hE;refine(Tryz.strconv_ParseInt_10_at64_range s (by omega) h ev w h2 h3).mono ?_;rintro e w'⟨N,rfl,_,_,hb⟩;exact⟨⟨_,_,_,rfl⟩,hb⟩
theorem jz5(p:UInt8->Bool)(s:ByteArray)(h:0<s.size)(hp:p s[0]=true):qa3 p s.data.toList=qa3 p (s.data.toList.drop 1)+1:=by
 have:=qe9 p s.data.toList 0 (by rw[qa5];exact h) hp;rwa [List.drop_zero]at this
theorem jw8(s:ByteArray)(h0:0<s.size)(hs:s.size<=140737488355328)(hd:qh3 s[0]=true)(w:World)(hE:ErrOk w):
  Calls prog 193 #[.string s] w λe w'=>e=.returned (.tuple #[tkV (qp5 s.data.toList) 0,.int .i64 (qa3 qh3 s.data.toList)])/\Below w.heap.size w w':=by
 have hl:=qa5 s;have hp:=jz5 qh3 s h0 hd;have N8:=qx6 qh3 s.data.toList;have V8:=digs_of s.data.toList;have HD:Hid (qh3 s[0]=true):=hd;clear hd;obtain⟨z,hz⟩:∃z,qa3 qh3 s.data.toList=z:=⟨_,rfl⟩;have C8:1<=z:=by omega
 have RY:z<=s.size:=by omega
 have EF:(s.extract 0 z).data.toList=s.data.toList.take z:=by rw[Lib.extract_data];simp
 have vJ:=vh6 (s.data.toList.take z) (by intro h;have:=congrArg List.length h;rw[List.length_take,List.length_nil]at this;omega) (by rw[←hz];exact V8);have HK:Hid (qp5 s.data.toList=if qf4 0 (s.data.toList.take z)<=9223372036854775807 then⟨3,qf4 0 (s.data.toList.take z),[]⟩ else j7 1):=by rw[←hz];exact j3 rfl
 rw[hz]at hp ⊢;have HP:=j3 hp;have HX:=j3 EF;have HI:=j3 vJ;have GI:=λo=>hE.alloc o
 have HE:=j3 GI;clear V8 N8 hz hp EF vJ hE GI;obtain⟨v,hv⟩:∃v,qf4 0 (s.data.toList.take z)=v:=⟨_,rfl⟩;rw[hv]at HK HI;have HV:=j3 hv;clear hv;go_enter func193,ntmps193
 go_wp2_with fail
 go_loop [4] (λi=>∃k:Nat,1<=k/\k<=s.size/\i=.int .i64 k/\Hid (z=qa3 qh3 (s.data.toList.drop k)+k)) (λi=>s.size - (intOf i).toNat)
 case atStart=>exact⟨1,Nat.le_refl _,by omega,rfl,HP⟩
 case round=>
  obtain⟨k,A0,hk,rfl,hr⟩:=hrel
  have more:∀A1:k<s.size,qh3 s[k]=true->Hid (z=qa3 qh3 (s.data.toList.drop (k+1))+(k+1)):=λA1 hg=>j3 (by
   have:=qe9 qh3 s.data.toList k (by omega) hg;rw[q9 hr,this];omega)
  have done1:∀A1:k<s.size,qh3 s[k]=false->z=k:=λA1 hg=>by
   have:=qf9 qh3 s.data.toList k (by omega) hg;rw[q9 hr,this];omega
  have done2:¬k<s.size->z=k:=λA1=>by
   have:=qh0 qh3 s.data.toList k (by omega);rw[q9 hr,this];omega
  clear hr
  by_cases Z1:∃A1:k<s.size,qh3 s[k]=true
  ·obtain⟨A1,hg⟩:=Z1
   have HR:=more A1 hg;have Hg:=j3 hg;clear more done1 done2 hg
   go_wp2_with(go_at_call 192;refine(qj9 _ _).mono ?_;rintro e w'⟨rfl,rfl⟩;rw[show ve3 (s[k].toNat:Int)=true from q9 Hg])
   go_round
   case rel=>exact⟨k+1,by omega,by omega,by go_num,HR⟩
   case measure=>simp[intOf];omega
  ·have iV:z=k:=by
    by_cases A1:k<s.size
    ·exact done1 A1 (by cases hg:qh3 s[k] with|false=>rfl|true=>exact absurd ⟨A1,hg⟩ Z1)
    ·exact done2 A1
   have Hg:Hid (∀A1:k<s.size,qh3 s[k]=false):=j3 λA1=>by cases hg:qh3 s[k] with|false=>rfl|true=>exact absurd ⟨A1,hg⟩ Z1
   clear more done1 done2 Z1;subst iV
   by_cases hv:v<=9223372036854775807
   ·rw[if_pos hv]at HK HI
    have TX:=j3 hv;clear hv
    by_cases A1:z<s.size
    all_goals
     go_wp2_with(first|(go_at_call 192;refine(qj9 _ _).mono ?_;rintro e w'⟨rfl,rfl⟩;rw[show ve3 (s[z].toNat:Int)=false from q9 Hg A1])|(go_at_call 239;refine(parse_ok _ (by simp;omega) v (by rw[q9 HX];exact q9 HI) _).mono ?_;rintro e w'⟨rfl,hb⟩;obtain⟨hc,hf⟩:=qb0 hb;have hz:=hb.size))
     refine bodyPost_ret (by simp[results,results193,go_sem,hc];rfl) rfl ⟨?_, ?_⟩
     all_goals go_light
     ·exact qu8 (by rw[q9 HK]) (by rw[q9 HK]) (by rw[q9 HK];rfl) rfl
     ·exact((((qc8 hb).setCell (by simp) _).setCell (by simp) _).setCell (by simp) _).setCell (by simp) _
   ·rw[if_neg hv]at HK HI
    clear hv
    by_cases A1:z<s.size
    all_goals
     go_wp2_with(first|(go_at_call 192;refine(qj9 _ _).mono ?_;rintro e w'⟨rfl,rfl⟩;rw[show ve3 (s[z].toNat:Int)=false from q9 Hg A1])|(go_at_call 239;refine(jn4 _ (by simp;omega) (by rw[q9 HX];exact q9 HI) _ (q9 HE _)).mono ?_;rintro e w'⟨⟨x,t,p,rfl⟩,hb⟩;obtain⟨hc,hf⟩:=qb0 hb;have hz:=hb.size))
     refine bodyPost_ret (by simp[results,results193,go_sem,hc];rfl) rfl ⟨?_, ?_⟩
     all_goals go_light
     ·exact qu8 (by rw[q9 HK];rfl) (by rw[q9 HK];rfl) (by rw[q9 HK];rfl) rfl
     ·exact((((qc8 hb).setCell (by simp) _).setCell (by simp) _).setCell (by simp) _).setCell (by simp) _
def qe2:List UInt8->Option (List UInt8×Nat)
 | []=>none
 | [c]=>if c==39 then some ([],1) else none
 | c::d::t=>
  if c==39 then(if d==39 then(qe2 t).map λr=>(39::r.1,r.2+2) else some ([],1))
  else(qe2 (d::t)).map λr=>(c::r.1,r.2+1)
def qf5(l:List UInt8):Tk:=match qe2 (l.drop 1) with
 | some r=>⟨4,0,r.1⟩
 | none=>j7 1
def qq7(l:List UInt8):Nat:=match qe2 (l.drop 1) with
 | some r=>r.2+1
 | none=>l.length
def QAt(l:List UInt8)(k:Nat)(xs:List UInt8):Prop:=qe2 (l.drop 1)=(qe2 (l.drop k)).map λr=>(xs++r.1,r.2+(k - 1))
theorem drop2(l:List UInt8)(k:Nat)(h:k+1<l.length):l.drop k=l[k]::l[k+1]::l.drop (k+2):=by
 rw[List.drop_eq_getElem_cons (by omega),List.drop_eq_getElem_cons (by omega)]
theorem drop1(l:List UInt8)(k:Nat)(h:k+1=l.length):l.drop k=[l[k]]:=by
 rw[List.drop_eq_getElem_cons (by omega),List.drop_of_length_le (by omega)]
theorem QAt.start(l:List UInt8):QAt l 1 []:=by
 unfold QAt;cases qe2 (l.drop 1)<;>simp
theorem QAt.over{l:List UInt8}{k:Nat}{xs:List UInt8}(h:QAt l k xs)(hk:l.length<=k):qe2 (l.drop 1)=none:=by
 unfold QAt at h;rw[h,List.drop_of_length_le hk];rfl
theorem QAt.close{l:List UInt8}{k:Nat}{xs:List UInt8}(h:QAt l k xs)(h1:1<=k)(hk:k<l.length)(hc:l[k]=39)(hn:∀h:k+1<l.length,l[k+1]≠39):
  qe2 (l.drop 1)=some (xs,k):=by
 unfold QAt at h;rw[h]
 by_cases h2:k+1<l.length
 ·have:=hn h2
  rw[drop2 l k h2,qe2,if_pos (by simp[hc]),if_neg (by simpa using this)];simp;omega
 ·rw[drop1 l k (by omega),qe2,if_pos (by simp[hc])];simp;omega
theorem QAt.two{l:List UInt8}{k:Nat}{xs:List UInt8}(h:QAt l k xs)(h1:1<=k)(hk:k+1<l.length)(hc:l[k]=39)(hd:l[k+1]=39):QAt l (k+2) (xs++[39]):=by
 unfold QAt at h ⊢;rw[h,drop2 l k hk,qe2,if_pos (by simp[hc]),if_pos (by simp[hd])]
 cases qe2 (l.drop (k+2)) with
 | none=>rfl
 | some r=>simp;omega
theorem QAt.one{l:List UInt8}{k:Nat}{xs:List UInt8}(h:QAt l k xs)(h1:1<=k)(hk:k<l.length)(hc:l[k]≠39):QAt l (k+1) (xs++[l[k]]):=by
 unfold QAt at h ⊢;rw[h]
 by_cases h2:k+1<l.length
 ·rw[drop2 l k h2,qe2,if_neg (by simpa using hc),List.drop_eq_getElem_cons h2]
  cases qe2 (l[k+1]::l.drop (k+1+1)) with
  | none=>rfl
  | some r=>simp;omega
 ·rw[drop1 l k (by omega),qe2,if_neg (by simpa using hc),List.drop_of_length_le (by omega)];rfl
theorem Tryz.info5u:(prog.info? 5).map (λi=>(i.zero,i.size,i.bytes))=some (some (.int .u8 0),1,1):=by kernel_rfl
theorem conv_own{w:World}{base:Nat}{v:Value}{l:List UInt8}(h:w.ownsRow base 5 1 v l.length (l.map λc=>.int .u8 (c.toNat:Int))):
  (convert 51 9 v).run prog w=.ok (.string (BS l)) w:=by
 have h':=h;obtain⟨_,⟨rfl,hn⟩|⟨g,cap,cur,rfl,_⟩⟩:=h
 ·have:l=[]:=List.eq_nil_of_length_eq_zero hn
  subst this;rw[run_convert_bytes_string w 51 9 5 none 0 0 underlying51 underlying5 underlying9];simp[Conv.bytesToString];rfl
 ·refine run_convert_bytes_back w 51 9 5 ⟨g,0,none⟩ cap l underlying51 underlying5 underlying9 λj hj=>?_
  exact h'.cells rfl j _ (by simp[List.getElem?_eq_getElem hj])
theorem js0{W w1 wr:World}{B:Nat}{v:Value}{n:Nat}{xs:List Value}{e:TypeId}(hb:Below B W wr)(hB:B<=wr.heap.size)(ho:wr.ownsRow B e 1 v n xs)(o:Obj)
  (hg:(wr.alloc o).grownBy w1 v.ownBlock):Below B W w1:=
 (hb.alloc hB o).grown hg (by simp;omega) λk hk=>(ho.lt k hk).1
theorem jt2(c:UInt8):((c.toNat:Int) != 39)=!(c==39):=by simp only[bne,u8_39]
theorem qu2{l:List UInt8}{xs:List UInt8}{k:Nat}(h:qe2 (l.drop 1)=some (xs,k)):qf5 l=⟨4,0,xs⟩/\qq7 l=k+1:=by
 unfold qf5 qq7;rw[h];exact⟨rfl,rfl⟩
theorem vn7{l:List UInt8}(h:qe2 (l.drop 1)=none):qf5 l=j7 1/\qq7 l=l.length:=by
 unfold qf5 qq7;rw[h];exact⟨rfl,rfl⟩
theorem jx4(s:ByteArray)(h0:0<s.size)(hs:s.size<=140737488355328)(w:World):
  Calls prog 194 #[.string s] w λe w'=>e=.returned (.tuple #[tkV (qf5 s.data.toList) 0,.int .i64 (qq7 s.data.toList)])/\Below w.heap.size w w':=by
 have hl:=qa5 s;obtain⟨i0,hi,I8,C8,F8⟩:=info_parts Tryz.info5u;obtain⟨TK,mC⟩:∃t,qf5 s.data.toList=t:=⟨_,rfl⟩;obtain⟨Z,hZ⟩:∃t,qq7 s.data.toList=t:=⟨_,rfl⟩;rw[mC,hZ];have kT:=j3 mC;have HZ:=j3 hZ;clear mC hZ;go_enter func194,ntmps194
 go_wp2_with fail
 go_loopw [4,5] (λv i wr=>∃(k:Nat) (xs:List UInt8),1<=k/\k<=s.size/\i=.int .i64 k/\Hid (QAt s.data.toList k xs)/\xs.length<k/\wr.ownsRow (w.heap.size+1) 5 1 v xs.length (xs.map λc=>.int .u8 (c.toNat:Int))/\Below (w.heap.size+1) (w.alloc (.cells #[.int .i64 0,.int .i64 0,.int .i64 0,.string ⟨#[]⟩] 91)) wr)
  (λ_ i _=>s.size - (intOf i).toNat)
 case atStart=>exact⟨1,[],Nat.le_refl _,by omega,rfl,j3 (QAt.start _),by simp,World.ownsRow_nil _ _ _ _,Below.refl _ _⟩
 case round=>
  obtain⟨k,xs,A0,hk,rfl,hq,lK,C2,hb⟩:=hrel;have vU:w.heap.size+1<=wr.heap.size:=by have:=hb.size;simpa using this
  have sO:=conv_own C2;have T9:Below (w.alloc (.cells #[.int .i64 0,.int .i64 0,.int .i64 0,.string ⟨#[]⟩] 91)).heap.size (w.alloc (.cells #[.int .i64 0,.int .i64 0,.int .i64 0,.string ⟨#[]⟩] 91)) wr:=by simpa using hb
  obtain⟨aM,FI⟩:=qb0 T9
  by_cases A1:k<s.size
  ·cases hc:(s[k]==39) with
   | false=>
    have HQ:Hid (QAt s.data.toList (k+1) (xs++[s[k]])):=j3 ((q9 hq).one A0 (by omega) (by rw[qb2 s k A1];simpa using hc));have cU:((s[k].toNat:Int)==39)=false:=by rw[u8_39];exact hc
    clear hc hq
    go_wp2_with(at_builtin;refine wpList_append_own _ rfl _ _ 51 rfl (w.heap.size+1) 5 i0 (.int .u8 0) 1 1 underlying51 hi I8 C8 F8 rfl (by decide) _ _ _ rfl (C2.alloc _) ⟨wr.heap.size,0,none⟩ 1 1 [.int .u8 (s[k].toNat:Int)] rfl rfl ?c1 ?c2 ?c3 ?c4 ?c5 ?_)
    case c1=>
     intro j u hj
     match j,hj with
     | 0,hj=>simp at hj;subst hj;simp[Addr.add]
    case c2=>intro u hu;simp at hu;subst hu;rfl
    case c3=>unfold maxLen;omega
    case c4=>omega
    case c5=>simp;omega
    intro v' w1 G3 B7 _;have A7:=js0 hb vU C2 _ B7;have I4:w1.ownsRow (w.heap.size+1) 5 1 v' (xs++[s[k]]).length ((xs++[s[k]]).map λc=>.int .u8 (c.toNat:Int)):=by simpa using G3
    clear G3 B7 C2 sO hb vU T9 aM FI
    go_wp2_with fail
    go_roundw
    case rel=>exact⟨k+1,xs++[s[k]],by omega,by omega,by go_num,HQ,by simp;omega,I4,A7⟩
    case measure=>simp[intOf];omega
   | true=>
    have cU:((s[k].toNat:Int)==39)=true:=by rw[u8_39];exact hc
    have eI:s.data.toList[k]'(by omega)=39:=by rw[qb2 s k A1];simpa using hc
    by_cases h2:k+1<s.size
    ·cases hd:(s[k+1]==39) with
     | true=>
      have HQ:Hid (QAt s.data.toList (k+2) (xs++[39])):=j3 ((q9 hq).two A0 (by omega) eI (by rw[qb2 s (k+1) h2];simpa using hd));have yZ:((s[k+1].toNat:Int) != 39)=false:=by rw[jt2,hd];rfl
      have FK:(s[k+1].toNat:Int)=39:=by rw[show s[k+1]=39 by simpa using hd];rfl
      have he:((k:Int)+1==(s.size:Int))=false:=beq_eq_false_iff_ne.2 (by omega);clear hc hq hd eI
      go_wp2_with(at_builtin;refine wpList_append_own _ rfl _ _ 51 rfl (w.heap.size+1) 5 i0 (.int .u8 0) 1 1 underlying51 hi I8 C8 F8 rfl (by decide) _ _ _ rfl (C2.alloc _) ⟨wr.heap.size,0,none⟩ 1 1 [.int .u8 39] rfl rfl ?c1 ?c2 ?c3 ?c4 ?c5 ?_)
      case c1=>
       intro j u hj
       match j,hj with
       | 0,hj=>simp at hj;subst hj;simp[Addr.add]
      case c2=>intro u hu;simp at hu;subst hu;rfl
      case c3=>unfold maxLen;omega
      case c4=>omega
      case c5=>simp;omega
      intro v' w1 G3 B7 _;have A7:=js0 hb vU C2 _ B7;have I4:w1.ownsRow (w.heap.size+1) 5 1 v' (xs++[(39:UInt8)]).length ((xs++[(39:UInt8)]).map λc=>.int .u8 (c.toNat:Int)):=by simpa using G3
      clear G3 B7 C2 sO hb vU T9 aM FI
      go_wp2_with fail
      go_roundw
      case rel=>exact⟨k+2,xs++[39],by omega,by omega,by go_num,HQ,by simp;omega,I4,A7⟩
      case measure=>simp[intOf];omega
     | false=>
      have HC:Hid (qe2 (s.data.toList.drop 1)=some (xs,k)):=j3 ((q9 hq).close A0 (by omega) eI (λ_=>by rw[qb2 s (k+1) h2];simpa using hd));have yZ:((s[k+1].toNat:Int) != 39)=true:=by rw[jt2,hd];rfl
      have he:((k:Int)+1==(s.size:Int))=false:=beq_eq_false_iff_ne.2 (by omega);clear hc hq hd eI
      go_wp2_with fail
      refine bodyPost_ret (by simp[results,results194,go_sem,aM];rfl) rfl ⟨?_, ?_⟩
      all_goals go_light
      ·exact qu8 (by rw[←q9 kT,(qu2 (q9 HC)).1]) (by rw[←q9 kT,(qu2 (q9 HC)).1]) (by rw[←q9 kT,(qu2 (q9 HC)).1]) (by rw[←q9 HZ,(qu2 (q9 HC)).2];go_num)
      ·exact(((((qc8 T9).setCell (by simp) _).setCell (by simp) _).setCell (by simp) _).setCell (by simp) _)
    ·have HC:Hid (qe2 (s.data.toList.drop 1)=some (xs,k)):=j3 ((q9 hq).close A0 (by omega) eI (λh=>absurd h (by omega)))
     have he:((k:Int)+1==(s.size:Int))=true:=beq_iff_eq.2 (by omega);clear hc hq eI
     go_wp2_with fail
     refine bodyPost_ret (by simp[results,results194,go_sem,aM];rfl) rfl ⟨?_, ?_⟩
     all_goals go_light
     ·exact qu8 (by rw[←q9 kT,(qu2 (q9 HC)).1]) (by rw[←q9 kT,(qu2 (q9 HC)).1]) (by rw[←q9 kT,(qu2 (q9 HC)).1]) (by rw[←q9 HZ,(qu2 (q9 HC)).2];go_num)
     ·exact(((((qc8 T9).setCell (by simp) _).setCell (by simp) _).setCell (by simp) _).setCell (by simp) _)
  ·have HN:Hid (qe2 (s.data.toList.drop 1)=none):=j3 ((q9 hq).over (by omega))
   clear hq
   go_wp2_with fail
   refine bodyPost_ret (by simp[results,results194,go_sem,aM];rfl) rfl ⟨?_, ?_⟩
   all_goals go_light
   ·exact qu8 (by rw[←q9 kT,(vn7 (q9 HN)).1];rfl) (by rw[←q9 kT,(vn7 (q9 HN)).1];rfl) (by rw[←q9 kT,(vn7 (q9 HN)).1];rfl) (by rw[←q9 HZ,(vn7 (q9 HN)).2,hl])
   ·exact(((((qc8 T9).setCell (by simp) _).setCell (by simp) _).setCell (by simp) _).setCell (by simp) _)
end Go.Proofs.YtfkcaldjphakpaaGreatDoor
