/- Contracts of core's quoted, sign, spellEscape. -/
import Derived.Test.YtfkcaldjphakpaaGreatDoorM24
import Derived.Test.YtfkcaldjphakpaaGreatDoorM21
import Derived.Deep.OwnRows
import Derived.Test.YtfkcaldjphakpaaGreatDoorShelf2
set_option maxHeartbeats 4000000
set_option maxRecDepth 100000
namespace Go.Proofs.YtfkcaldjphakpaaGreatDoor
open Go.RowKit Go.Proofs.Tryz
theorem je3:∀s:List UInt8,Lib.replaceK [39] [39,39] (Lib.count s [39]) s=qr2 s:=by
 intro s
 induction s with
 | nil=>rfl
 | cons b l ih=>
  rw[qr2]
  by_cases hb:b=39
  ·subst hb
   rw[Lib.count_cons_eq,Nat.add_comm,Lib.replaceK_hit _ _ _ _ 0 (by rfl),if_pos (by rfl)];show[]++[39,39]++Lib.replaceK [39] [39,39] (Lib.count l [39]) l=_;rw[ih];rfl
  ·rw[Lib.count_cons_ne b 39 l hb,if_neg (by simpa using hb)]
   cases hc:Lib.count l [39] with
   | zero=>
    rw[hc]at ih;show b::l=b::qr2 l;rw[←ih];rfl
   | succ k=>
    obtain⟨i,hi⟩:=Lib.index_of_count (s:=l) (old:=[39]) (by rw[hc];omega)
    have MJ:Lib.index (b::l) [39]=((i+1:Nat):Int):=by
     rw[Lib.index]
     have h1:([39]:List UInt8).isPrefixOf (b::l)=false:=by
      show((39:UInt8)==b&&true)=false;rw[Bool.and_true];apply beq_eq_false_iff_ne.2;intro e;exact hb e.symm
     rw[h1,if_neg (by decide),if_neg (by rw[hi];intro e;have:=eq_of_beq e;omega),hi]
     push_cast
     rfl
    rw[hc,Lib.replaceK_hit _ _ _ _ i hi]at ih;rw[Lib.replaceK_hit _ _ _ _ (i+1) MJ,←ih];rfl
theorem vq4(s:List UInt8):Lib.replaceAll s [39] [39,39]=qr2 s:=by
 unfold Lib.replaceAll Lib.replace;rw[if_neg (by decide)];unfold Lib.replaceNum;rw[if_pos (.inl (by decide))];exact je3 s
theorem qi3(s t:ByteArray)(m n:Nat)(hs:s.size<=m)(ht:t.size<=n)(h:m+n<=9000000000):∃r,r=s++t/\r.size<=m+n/\∀w:World,(Op.stringOp .add s t).run prog w=.ok (.string r) w:=
 ⟨s++t,rfl,by rw[ByteArray.size_append];omega,λw=>run_string_add_sum (P:=prog) (w:=w) _ _ (by omega)⟩
theorem vc4(s:List UInt8):(qL s).length<=2 * s.length+2:=by
 have:=jq7 s;unfold qL;simp;omega
theorem qz9(s:List UInt8)(hs:s.length<=1000000000)(w:World)(hL:LibOk w):
  Calls prog 210 #[.string (BS s)] w λe w'=>e=.returned (.string (BS (qL s)))/\Below w.heap.size w w':=by
 obtain⟨_,m,hm⟩:=hL.max;have hc:=Lib.countB_le ⟨#[39]⟩ (by decide) _ (BS s) (Nat.le_refl _);rw[qc1]at hc;have nB:=Tryz.strings_ReplaceAll (BS s) ⟨#[39]⟩ ⟨#[39,39]⟩ m w (by rw[qc1];omega) hm (by decide) (by rw[qc1];show _+_ * 2<=_;omega);rw[show Lib.replaceAll (BS s).data.toList (⟨#[39]⟩:ByteArray).data.toList (⟨#[39,39]⟩:ByteArray).data.toList=qr2 s from vq4 s]at nB;have BJ:Hid (Calls prog 255 #[.string (BS s),.string ⟨#[39]⟩,.string ⟨#[39,39]⟩] w λe w'=>e=.returned (.string (BS (qr2 s)))/\Below w.heap.size w w'):=j3 nB;have hd:=jq7 s;obtain⟨R1,e1,z1,a1⟩:=qi3 ⟨#[39]⟩ (BS (qr2 s)) 1 2000000000 (Nat.le_refl _) (by rw[qc1];omega) (by decide);obtain⟨R2,e2,z2,a2⟩:=qi3 R1 ⟨#[39]⟩ 2000000001 1 z1 (Nat.le_refl _) (by decide)
 have HR:Hid (R2=BS (qL s)):=j3 (by
  rw[e2,e1,show(⟨#[39]⟩:ByteArray)=BS [39] from rfl,qj5,qj5]
  rfl)
 clear nB hm hL hc hs hd e1 z1 e2 z2;go_enter func210,ntmps210
 go_wp2_with(go_at_call 255;refine(q9 BJ).mono ?_;rintro e w1⟨rfl,A7⟩)
 go_ret;exact⟨by rw[q9 HR];rfl,A7⟩
theorem vd4(op:Int):(qi6 op).length<=3:=by
 unfold qi6
 repeat' split
 all_goals decide
theorem csign_any(op:Int)(w:World):
  Calls prog 212 #[.int .i64 op] w λe w'=>e=.returned (.string (BS (qi6 op)))/\w'=w:=by
 go_enter func212,ntmps212
 go_wp2_with fail
 all_goals(go_ret;refine⟨?_,rfl⟩;go_light;simp only[qi6, *,if_true,Bool.false_eq_true,if_false];rfl)
theorem qy0(op:Int)(w:World):
  Calls prog 164 #[.int .i64 op] w λe w'=>e=.returned (.bool (qw2 op))/\w'=w:=by
 go_enter func164,ntmps164
 go_wp2_with fail
 all_goals(go_ret;refine⟨?_,rfl⟩;go_light;simp only[qw2, *,Bool.or_true,Bool.true_or,Bool.or_false];rfl)
theorem vp6(b:Nat)(s:List UInt8)(hs:s.length<=1000000000)(w:World)(hL:LibOk w)(hc:w.cell? ⟨b,5,none⟩=some (.string (BS s))):
  Calls prog 211 #[at0 b] w λe w'=>e=.returned (.string (BS (vz3 s)))/\Below w.heap.size w w':=by
 unfold at0 vz3
 cases he:s.isEmpty with
 | true=>
  have h1:(BS s).toList.isEmpty=true:=by rw[qc9];exact he
  rw[if_pos rfl];clear hL;go_enter func211,ntmps211
  go_wp2_with fail
  go_ret;exact⟨rfl,Below.refl _ _⟩
 | false=>
  have h1:(BS s).toList.isEmpty=false:=by rw[qc9];exact he
  rw[if_neg (by decide)];have HQ:=j3 (qz9 s hs w hL);have hq:=vc4 s;obtain⟨R1,e1,z1,a1⟩:=qi3 ⟨#[32,69,83,67,65,80,69,32]⟩ (BS (qL s)) 8 2000000002 (Nat.le_refl _) (by rw[qc1];omega) (by decide);have HR:Hid (R1=BS ([32,69,83,67,65,80,69,32]++qL s)):=j3 (by rw[e1,show(⟨#[32,69,83,67,65,80,69,32]⟩:ByteArray)=BS [32,69,83,67,65,80,69,32] from rfl,qj5]);clear hL hs hq e1 z1 he;go_enter func211,ntmps211
  go_wp2_with(go_at_call 210;refine(q9 HQ).mono ?_;rintro e w1⟨rfl,A7⟩)
  go_ret;exact⟨by rw[q9 HR];rfl,A7⟩
theorem escT_len(e:List UInt8):(vz3 e).length<=2 * e.length+10:=by
 have:=vc4 e;unfold vz3
 split
 ·simp
 ·simp
  omega
theorem jt7(w:World)(k:Nat)(os:Array Obj):Below w.heap.size w (Sort.grow (w.drewN k) os):=
 ⟨rfl,rfl,rfl,by first|(simp[Sort.grow];done)|(simp[Sort.grow];omega),λi hi=>by
  show((w.drewN k).heap++os)[i]?=_;rw[Array.getElem?_append_left (by show i<w.heap.size;omega)]
  rfl⟩
structure SpA(w:World)(b:Nat)(p:CP)(l r:Value):Prop where
 lib:LibOk w
 lt:b<w.heap.size
 c0:w.cell? ⟨b,0,none⟩=some (.int .i64 p.op)
 c1:w.cell? ⟨b,1,none⟩=some l
 c2:w.cell? ⟨b,2,none⟩=some r
 c3:w.cell? ⟨b,3,none⟩=some (.int .i64 p.num)
 c4:w.cell? ⟨b,4,none⟩=some (.string (BS p.str))
 c5:w.cell? ⟨b,5,none⟩=some (.string (BS p.esc))
 rng:Rng p.num
 s4:p.str.length<=1000000000
 s5:p.esc.length<=1000000000
theorem spell_0(w:World)(b:Nat)(p:CP)(l r:Value)(h:SpA w b p l r)(lt rt:List UInt8)(ho:p.op=0):
  Calls prog 168 #[at0 b] w λe w'=>e=.returned (.string (BS (qb1 p lt rt)))/\Below w.heap.size w w':=by
 have e0:(p.op==0)=true:=by rw[ho];rfl
 have c0:=h.c0
 have hv:qb1 p lt rt=p.str:=by
  unfold qb1;rw[e0];rfl
 rw[hv];clear hv;unfold at0;have c4:=h.c4;clear h ho;go_enter func168,ntmps168
 go_wp2_with fail
 go_ret;exact⟨rfl,Below.refl _ _⟩
theorem spell_1(w:World)(b:Nat)(p:CP)(l r:Value)(h:SpA w b p l r)(lt rt:List UInt8)(ho:p.op=1):
  Calls prog 168 #[at0 b] w λe w'=>e=.returned (.string (BS (qb1 p lt rt)))/\Below w.heap.size w w':=by
 have e0:(p.op==0)=false:=by rw[ho];rfl
 have e1:(p.op==1)=true:=by rw[ho];rfl
 have c0:=h.c0
 have hv:qb1 p lt rt=Lib.itoa p.num:=by
  unfold qb1;rw[e0,e1];rfl
 rw[hv];clear hv;unfold at0;have c3:=h.c3;have HF:=j3 (Tryz.strconv_FormatInt_10 p.num h.rng.1 h.rng.2 w h.lib.pow);clear h ho;go_enter func168,ntmps168
 go_wp2_with(go_at_call 209;refine(q9 HF).mono ?_;rintro e w1⟨rfl,k,os,rfl⟩)
 go_ret;exact⟨rfl,jt7 w k os⟩
theorem spell_2(w:World)(b:Nat)(p:CP)(l r:Value)(h:SpA w b p l r)(lt rt:List UInt8)(ho:p.op=2):
  Calls prog 168 #[at0 b] w λe w'=>e=.returned (.string (BS (qb1 p lt rt)))/\Below w.heap.size w w':=by
 have e0:(p.op==0)=false:=by rw[ho];rfl
 have e1:(p.op==1)=false:=by rw[ho];rfl
 have e2:(p.op==2)=true:=by rw[ho];rfl
 have c0:=h.c0
 have hv:qb1 p lt rt=qL p.str:=by
  unfold qb1;rw[e0,e1,e2];rfl
 rw[hv];clear hv;unfold at0;have c4:=h.c4;have HF:=j3 (qz9 p.str h.s4 w h.lib);clear h ho;go_enter func168,ntmps168
 go_wp2_with(go_at_call 210;refine(q9 HF).mono ?_;rintro e w1⟨rfl,A7⟩)
 go_ret;exact⟨rfl,A7⟩
theorem spell_3(w:World)(b:Nat)(p:CP)(l r:Value)(h:SpA w b p l r)(lt rt:List UInt8)(ho:p.op=3):
  Calls prog 168 #[at0 b] w λe w'=>e=.returned (.string (BS (qb1 p lt rt)))/\Below w.heap.size w w':=by
 have e0:(p.op==0)=false:=by rw[ho];rfl
 have e1:(p.op==1)=false:=by rw[ho];rfl
 have e2:(p.op==2)=false:=by rw[ho];rfl
 have e3:(p.op==3)=true:=by rw[ho];rfl
 have c0:=h.c0
 have hv:qb1 p lt rt=[84,82,85,69]:=by
  unfold qb1;rw[e0,e1,e2,e3];rfl
 rw[hv];clear hv;unfold at0;clear h ho;go_enter func168,ntmps168
 go_wp2_with fail
 go_ret;exact⟨rfl,Below.refl _ _⟩
theorem spell_4(w:World)(b:Nat)(p:CP)(l r:Value)(h:SpA w b p l r)(lt rt:List UInt8)(ho:p.op=4):
  Calls prog 168 #[at0 b] w λe w'=>e=.returned (.string (BS (qb1 p lt rt)))/\Below w.heap.size w w':=by
 have e0:(p.op==0)=false:=by rw[ho];rfl
 have e1:(p.op==1)=false:=by rw[ho];rfl
 have e2:(p.op==2)=false:=by rw[ho];rfl
 have e3:(p.op==3)=false:=by rw[ho];rfl
 have e4:(p.op==4)=true:=by rw[ho];rfl
 have c0:=h.c0
 have hv:qb1 p lt rt=[70,65,76,83,69]:=by
  unfold qb1;rw[e0,e1,e2,e3,e4];rfl
 rw[hv];clear hv;unfold at0;clear h ho;go_enter func168,ntmps168
 go_wp2_with fail
 go_ret;exact⟨rfl,Below.refl _ _⟩
theorem spell_5(w:World)(b:Nat)(p:CP)(l r:Value)(h:SpA w b p l r)(lt rt:List UInt8)(hl:TextAt w l lt)(zl:lt.length<=1000000000)(ho:p.op=5):
  Calls prog 168 #[at0 b] w λe w'=>e=.returned (.string (BS (qb1 p lt rt)))/\Below w.heap.size w w':=by
 have e0:(p.op==0)=false:=by rw[ho];rfl
 have e1:(p.op==1)=false:=by rw[ho];rfl
 have e2:(p.op==2)=false:=by rw[ho];rfl
 have e3:(p.op==3)=false:=by rw[ho];rfl
 have e4:(p.op==4)=false:=by rw[ho];rfl
 have e5:(p.op==5)=true:=by rw[ho];rfl
 have c0:=h.c0
 have hv:qb1 p lt rt=[40,78,79,84,32]++lt++[41]:=by
  unfold qb1;rw[e0,e1,e2,e3,e4,e5];rfl
 rw[hv];clear hv;unfold at0;obtain⟨lb,rfl,M5,lc⟩:=hl;unfold at0 at h;have c1:=h.c1;obtain⟨R1,Z7,z1,a1⟩:=qi3 ⟨#[40,78,79,84,32]⟩ (BS lt) 5 1000000000 (Nat.le_refl _) (by rw[qc1];omega) (by decide);obtain⟨R2,Z6,z2,a2⟩:=qi3 R1 ⟨#[41]⟩ 1000000005 1 z1 (Nat.le_refl _) (by decide)
 have HR:Hid (R2=BS ([40,78,79,84,32]++lt++[41])):=j3 (by
  rw[Z6,Z7,show(⟨#[40,78,79,84,32]⟩:ByteArray)=BS [40,78,79,84,32] from rfl,show(⟨#[41]⟩:ByteArray)=BS [41] from rfl,qj5,qj5])
 clear Z7 z1 Z6 z2;clear h ho;go_enter func168,ntmps168
 go_wp2_with fail
 go_ret;exact⟨by rw[q9 HR];rfl,Below.refl _ _⟩
theorem spell_23(w:World)(b:Nat)(p:CP)(l r:Value)(h:SpA w b p l r)(lt rt:List UInt8)(hl:TextAt w l lt)(zl:lt.length<=1000000000)(ho:p.op=23):
  Calls prog 168 #[at0 b] w λe w'=>e=.returned (.string (BS (qb1 p lt rt)))/\Below w.heap.size w w':=by
 have e0:(p.op==0)=false:=by rw[ho];rfl
 have e1:(p.op==1)=false:=by rw[ho];rfl
 have e2:(p.op==2)=false:=by rw[ho];rfl
 have e3:(p.op==3)=false:=by rw[ho];rfl
 have e4:(p.op==4)=false:=by rw[ho];rfl
 have e5:(p.op==5)=false:=by rw[ho];rfl
 have fV:(p.op==23)=true:=by rw[ho];rfl
 have c0:=h.c0
 have hv:qb1 p lt rt=[40]++lt++[32,73,83,32,78,85,76,76,41]:=by
  unfold qb1;rw[e0,e1,e2,e3,e4,e5,fV];rfl
 rw[hv];clear hv;unfold at0;obtain⟨lb,rfl,M5,lc⟩:=hl;unfold at0 at h;have c1:=h.c1;obtain⟨R1,Z7,z1,a1⟩:=qi3 ⟨#[40]⟩ (BS lt) 1 1000000000 (Nat.le_refl _) (by rw[qc1];omega) (by decide);obtain⟨R2,Z6,z2,a2⟩:=qi3 R1 ⟨#[32,73,83,32,78,85,76,76,41]⟩ 1000000001 9 z1 (Nat.le_refl _) (by decide)
 have HR:Hid (R2=BS ([40]++lt++[32,73,83,32,78,85,76,76,41])):=j3 (by
  rw[Z6,Z7,show(⟨#[40]⟩:ByteArray)=BS [40] from rfl,show(⟨#[32,73,83,32,78,85,76,76,41]⟩:ByteArray)=BS [32,73,83,32,78,85,76,76,41] from rfl,qj5,qj5])
 clear Z7 z1 Z6 z2;clear h ho;go_enter func168,ntmps168
 go_wp2_with fail
 go_ret;exact⟨by rw[q9 HR];rfl,Below.refl _ _⟩
theorem spell_22(w:World)(b:Nat)(p:CP)(l r:Value)(h:SpA w b p l r)(lt rt:List UInt8)(hl:TextAt w l lt)(zl:lt.length<=1000000000)(ho:p.op=22):
  Calls prog 168 #[at0 b] w λe w'=>e=.returned (.string (BS (qb1 p lt rt)))/\Below w.heap.size w w':=by
 have e0:(p.op==0)=false:=by rw[ho];rfl
 have e1:(p.op==1)=false:=by rw[ho];rfl
 have e2:(p.op==2)=false:=by rw[ho];rfl
 have e3:(p.op==3)=false:=by rw[ho];rfl
 have e4:(p.op==4)=false:=by rw[ho];rfl
 have e5:(p.op==5)=false:=by rw[ho];rfl
 have fV:(p.op==23)=false:=by rw[ho];rfl
 have iG:(p.op==22)=true:=by rw[ho];rfl
 have c0:=h.c0
 have hv:qb1 p lt rt=[40]++lt++[32,76,73,75,69,32]++qL p.str++vz3 p.esc++[41]:=by
  unfold qb1;rw[e0,e1,e2,e3,e4,e5,fV,iG];rfl
 rw[hv];clear hv;unfold at0;obtain⟨lb,rfl,M5,lc⟩:=hl;unfold at0 at h;have c1:=h.c1;have c4:=h.c4;have c5:=h.c5;have Z4:=h.lt;have hq:=vc4 p.str;have s4:=h.s4;have s5:=h.s5;have LI:=escT_len p.esc;obtain⟨R1,Z7,z1,a1⟩:=qi3 ⟨#[40]⟩ (BS lt) 1 1000000000 (Nat.le_refl _) (by rw[qc1];omega) (by decide);obtain⟨R2,Z6,z2,a2⟩:=qi3 R1 ⟨#[32,76,73,75,69,32]⟩ 1000000001 6 z1 (Nat.le_refl _) (by decide);obtain⟨R3,iJ,z3,a3⟩:=qi3 R2 (BS (qL p.str)) 1000000007 2000000002 z2 (by rw[qc1];omega) (by decide);obtain⟨R4,iI,z4,a4⟩:=qi3 R3 (BS (vz3 p.esc)) 3000000009 2000000010 z3 (by rw[qc1];omega) (by decide);obtain⟨R5,iH,z5,a5⟩:=qi3 R4 ⟨#[41]⟩ 5000000019 1 z4 (Nat.le_refl _) (by decide)
 have HR:Hid (R5=BS ([40]++lt++[32,76,73,75,69,32]++qL p.str++vz3 p.esc++[41])):=j3 (by
  rw[iH,iI,iJ,Z6,Z7,show(⟨#[40]⟩:ByteArray)=BS [40] from rfl,show(⟨#[32,76,73,75,69,32]⟩:ByteArray)=BS [32,76,73,75,69,32] from rfl,show(⟨#[41]⟩:ByteArray)=BS [41] from rfl,qj5,qj5,qj5,qj5,qj5])
 clear Z7 z1 Z6 z2 iJ z3 iI z4 iH z5;have HQ:Hid (∀w1,Below w.heap.size w w1->Calls prog 210 #[.string (BS p.str)] w1 λe w'=>e=.returned (.string (BS (qL p.str)))/\Below w1.heap.size w1 w'):=j3 (λw1 hb=>qz9 p.str s4 w1 (h.lib.below hb (Nat.le_refl _)));have HS:Hid (∀w1,Below w.heap.size w w1->Calls prog 211 #[.pointer (some ⟨b,0,none⟩)] w1 λe w'=>e=.returned (.string (BS (vz3 p.esc)))/\Below w1.heap.size w1 w'):=j3 (λw1 hb=>vp6 b p.esc s5 w1 (h.lib.below hb (Nat.le_refl _)) ((hb.cell (p:=⟨b,5,none⟩) Z4).trans c5));have HB:Hid (Below w.heap.size w w.drew):=j3 (Below.refl _ _).drew;clear h ho hq s4 s5 LI c5;go_enter func168,ntmps168
 go_wp2_with fail
 go_region_held3 (λW=>W.cell? ⟨b,1,none⟩=some (.pointer (some ⟨lb,0,none⟩))/\W.cell? ⟨lb,6,none⟩=some (.string (BS lt))/\W.cell? ⟨b,4,none⟩=some (.string (BS p.str))) (go_keep) (first|(go_at_call 210;refine(q9 HQ _ (q9 HB)).mono ?_;rintro e w1⟨rfl,A7⟩;replace HB:=j3 (j6 (q9 HB) A7);obtain⟨F1,F7⟩:=qb0 (q9 HB);have d1:=(F1 b 1 Z4).trans c1;have d2:=(F1 lb 6 M5).trans lc;have d3:=(F1 b 4 Z4).trans c4;clear F1 F7 A7)|(go_at_call 211;refine(q9 HS _ (q9 HB)).mono ?_;rintro e w1⟨rfl,A7⟩;replace HB:=j3 (j6 (q9 HB) A7);obtain⟨F1,F7⟩:=qb0 (q9 HB);have d1:=(F1 b 1 Z4).trans c1;have d2:=(F1 lb 6 M5).trans lc;have d3:=(F1 b 4 Z4).trans c4;clear F1 F7 A7))
 all_goals(go_wp2_with fail;go_ret;exact⟨by rw[q9 HR];rfl,q9 HB⟩)
theorem spell_bin(w:World)(b:Nat)(p:CP)(l r:Value)(h:SpA w b p l r)(lt rt:List UInt8)(hl:TextAt w l lt)(zl:lt.length<=1000000000)(hr:TextAt w r rt)(zr:rt.length<=1000000000)(h0:¬p.op=0)(h1:¬p.op=1)(h2:¬p.op=2)(h3:¬p.op=3)(h4:¬p.op=4)(h5:¬p.op=5)(L9:¬p.op=23)(f9:¬p.op=22):
  Calls prog 168 #[at0 b] w λe w'=>e=.returned (.string (BS (qb1 p lt rt)))/\Below w.heap.size w w':=by
 have e0:(p.op==0)=false:=beq_eq_false_iff_ne.2 h0;have e1:(p.op==1)=false:=beq_eq_false_iff_ne.2 h1;have e2:(p.op==2)=false:=beq_eq_false_iff_ne.2 h2;have e3:(p.op==3)=false:=beq_eq_false_iff_ne.2 h3;have e4:(p.op==4)=false:=beq_eq_false_iff_ne.2 h4;have e5:(p.op==5)=false:=beq_eq_false_iff_ne.2 h5;have fV:(p.op==23)=false:=beq_eq_false_iff_ne.2 L9;have iG:(p.op==22)=false:=beq_eq_false_iff_ne.2 f9;have c0:=h.c0
 have hv:qb1 p lt rt=[40]++lt++[32]++qi6 p.op++[32]++rt++[41]:=by
  unfold qb1;rw[e0,e1,e2,e3,e4,e5,fV,iG];rfl
 rw[hv];clear hv;unfold at0;obtain⟨lb,rfl,M5,lc⟩:=hl;obtain⟨rb,rfl,g9,rc⟩:=hr;unfold at0 at h;have c1:=h.c1;have c2:=h.c2;have vF:=vd4 p.op;obtain⟨R1,Z7,z1,a1⟩:=qi3 ⟨#[40]⟩ (BS lt) 1 1000000000 (Nat.le_refl _) (by rw[qc1];omega) (by decide);obtain⟨R2,Z6,z2,a2⟩:=qi3 R1 ⟨#[32]⟩ 1000000001 1 z1 (Nat.le_refl _) (by decide);obtain⟨R3,iJ,z3,a3⟩:=qi3 R2 (BS (qi6 p.op)) 1000000002 1000 z2 (by rw[qc1];omega) (by decide);obtain⟨R4,iI,z4,a4⟩:=qi3 R3 ⟨#[32]⟩ 1000001002 1 z3 (Nat.le_refl _) (by decide);obtain⟨R5,iH,z5,a5⟩:=qi3 R4 (BS rt) 1000001003 1000000000 z4 (by rw[qc1];omega) (by decide);obtain⟨R6,tT,z6,a6⟩:=qi3 R5 ⟨#[41]⟩ 2000001003 1 z5 (Nat.le_refl _) (by decide)
 have HR:Hid (R6=BS ([40]++lt++[32]++qi6 p.op++[32]++rt++[41])):=j3 (by
  rw[tT,iH,iI,iJ,Z6,Z7,show(⟨#[40]⟩:ByteArray)=BS [40] from rfl,show(⟨#[32]⟩:ByteArray)=BS [32] from rfl,show(⟨#[41]⟩:ByteArray)=BS [41] from rfl,qj5,qj5,qj5,qj5,qj5,qj5])
 clear Z7 z1 Z6 z2 iJ z3 iI z4 iH z5 tT z6;clear h vF zl zr h0 h1 h2 h3 h4 h5 L9 f9;go_enter func168,ntmps168
 go_wp2_with fail
 go_region_held3 (λW=>W.cell? ⟨b,0,none⟩=some (.int .i64 p.op)/\W.cell? ⟨b,1,none⟩=some (.pointer (some ⟨lb,0,none⟩))/\W.cell? ⟨lb,6,none⟩=some (.string (BS lt))/\W.cell? ⟨b,2,none⟩=some (.pointer (some ⟨rb,0,none⟩))/\W.cell? ⟨rb,6,none⟩=some (.string (BS rt))) (go_keep) (first|(go_at_call 212;refine(csign_any _ _).mono ?_;rintro e w1⟨rfl,aH⟩;subst w1))
 all_goals(go_wp2_with fail;go_ret;exact⟨by rw[q9 HR];rfl,(Below.refl _ _).drew⟩)
def unB(op:Int):Bool:=op==5||op==22||op==23
def qk8(op:Int):Bool:=op==0||op==1||op==2||op==3||op==4
theorem spell_any(w:World)(b:Nat)(p:CP)(l r:Value)(h:SpA w b p l r)(lt rt:List UInt8)(zl:lt.length<=1000000000)(zr:rt.length<=1000000000)
  (hl:qk8 p.op=false->TextAt w l lt) (hr:qk8 p.op=false->unB p.op=false->TextAt w r rt) :
  Calls prog 168 #[at0 b] w λe w'=>e=.returned (.string (BS (qb1 p lt rt)))/\Below w.heap.size w w':=by
 by_cases h0:p.op=0
 ·exact spell_0 w b p l r h lt rt h0
 by_cases h1:p.op=1
 ·exact spell_1 w b p l r h lt rt h1
 by_cases h2:p.op=2
 ·exact spell_2 w b p l r h lt rt h2
 by_cases h3:p.op=3
 ·exact spell_3 w b p l r h lt rt h3
 by_cases h4:p.op=4
 ·exact spell_4 w b p l r h lt rt h4
 have hL:=hl (by unfold qk8;simp[h0,h1,h2,h3,h4])
 by_cases h5:p.op=5
 ·exact spell_5 w b p l r h lt rt hL zl h5
 by_cases L9:p.op=23
 ·exact spell_23 w b p l r h lt rt hL zl L9
 by_cases f9:p.op=22
 ·exact spell_22 w b p l r h lt rt hL zl f9
 exact spell_bin w b p l r h lt rt hL zl (hr (by unfold qk8;simp[h0,h1,h2,h3,h4]) (by unfold unB;simp[h5,f9,L9])) zr h0 h1 h2 h3 h4 h5 L9 f9
def coV(p:CP)(l r:Value):Value:=.agg #[.int .i64 p.op,l,r,.int .i64 p.num,.string (BS p.str),.string (BS p.esc),.string ⟨#[]⟩]
theorem TextAt.below{w w':World}{v:Value}{t:List UInt8}(h:TextAt w v t)(hb:Below w.heap.size w w'):TextAt w' v t:=by
 obtain⟨b,rfl,h1,h2⟩:=h;exact⟨b,rfl,Nat.lt_of_lt_of_le h1 hb.size,(hb.cell (p:=⟨b,6,none⟩) h1).trans h2⟩
theorem va7(w:World)(hL:LibOk w)(p:CP)(l r:Value)(lt rt:List UInt8)(hn:Rng p.num)(h4:p.str.length<=1000000000)(h5:p.esc.length<=1000000000)(zl:lt.length<=1000000000)(zr:rt.length<=1000000000)
  (bX:∃a,l=.pointer a) (hrp:∃a,r=.pointer a)
  (hl:qk8 p.op=false->TextAt w l lt) (hr:qk8 p.op=false->unB p.op=false->TextAt w r rt) :
  Calls prog 115 #[coV p l r] w λe w'=>e=.returned (at0 w.heap.size)/\CellsC w.heap.size w'.heap.size w' w.heap.size p l r (qb1 p lt rt)/\Below w.heap.size w w':=by
 have eQ:Below w.heap.size w (w.alloc (.cells #[.int .i64 p.op,l,r,.int .i64 p.num,.string (BS p.str),.string (BS p.esc),.string ⟨#[]⟩] 75)):=(Below.refl _ _).alloc (Nat.le_refl _) _
 have HS:=j3 (spell_any (w.alloc (.cells #[.int .i64 p.op,l,r,.int .i64 p.num,.string (BS p.str),.string (BS p.esc),.string ⟨#[]⟩] 75)) w.heap.size p l r
  ⟨hL.alloc _,by simp,by simp,by simp,by simp,by simp,by simp,by simp,hn,h4,h5⟩ lt rt zl zr (λh=>(hl h).below eQ) (λh h'=>(hr h h').below eQ))
 obtain⟨la,rfl⟩:=bX;obtain⟨ra,rfl⟩:=hrp;generalize ht:qb1 p lt rt=t;rw[ht]at HS;unfold at0 at HS;clear hL hn h4 h5 zl zr hl hr ht;unfold at0 coV;go_enter func115,ntmps115
 go_wp2_with(go_at_call 168;refine(q9 HS).mono ?_;rintro e w1⟨rfl,A7⟩;have C8:w.heap.size<w1.heap.size:=(by have:=A7.size;simp at this;omega);have g0:w1.cell? ⟨w.heap.size,0,none⟩=some (.int .i64 p.op):=((qb0 A7).1 _ 0 (by simp)).trans (by simp);have g1:w1.cell? ⟨w.heap.size,1,none⟩=some (.pointer la):=((qb0 A7).1 _ 1 (by simp)).trans (by simp);have g2:w1.cell? ⟨w.heap.size,2,none⟩=some (.pointer ra):=((qb0 A7).1 _ 2 (by simp)).trans (by simp);have g3:w1.cell? ⟨w.heap.size,3,none⟩=some (.int .i64 p.num):=((qb0 A7).1 _ 3 (by simp)).trans (by simp);have g4:w1.cell? ⟨w.heap.size,4,none⟩=some (.string (BS p.str)):=((qb0 A7).1 _ 4 (by simp)).trans (by simp);have g5:w1.cell? ⟨w.heap.size,5,none⟩=some (.string (BS p.esc)):=((qb0 A7).1 _ 5 (by simp)).trans (by simp);have g6:w1.cell? ⟨w.heap.size,6,none⟩=some (.string ⟨#[]⟩):=((qb0 A7).1 _ 6 (by simp)).trans (by simp);have z0:∀j,w1.frozen? ⟨w.heap.size,j,none⟩=false:=(λj=>((qb0 A7).2 _ j (by simp)).trans (by simp));have oO:=j3 (j6 eQ A7);clear A7)
 go_ret;refine⟨rfl,⟨Nat.le_refl _,by simpa using C8,by simpa using C8,by simp[go_sem,g0],by simp[go_sem,g1],by simp[go_sem,g2],by simp[go_sem,g3],by simp[go_sem,g4],by simp[go_sem,g5],by simp[go_sem,g6]⟩, ?_⟩;exact(q9 oO).setCell (by simp) _
theorem LibOk.drew{w:World}(h:LibOk w):LibOk w.drew:=h.below (Below.refl _ _).drew (Nat.le_refl _)
theorem vt3{op:Int}(h1:qk8 op=false)(h2:unB op=false)(l r:List UInt8):qb1 (qa0 op) l r=[40]++l++[32]++qi6 op++[32]++r++[41]:=by
 unfold qk8 at h1;unfold unB at h2;simp only[Bool.or_eq_false_iff]at h1 h2;obtain⟨⟨⟨⟨a,b⟩,c⟩,d⟩,e⟩:=h1;obtain⟨⟨f,g⟩,i⟩:=h2;simp only[qb1,qa0,a,b,c,d,e,f,g,i];rfl
theorem CoAt.two{B:Nat}{w0 w':World}{op:Int}{x y:Co}{vx vy:Value}(hB:B<=w0.heap.size)(hc:CellsC w0.heap.size w'.heap.size w' w0.heap.size (qa0 op) vx vy (qb1 (qa0 op) (x9 x) (x9 y)))(hb:Below w0.heap.size w0 w')(hx:CoAt B w0.heap.size w0 vx x)(hy:CoAt B w0.heap.size w0 vy y):
  CoAt B w'.heap.size w' (at0 w0.heap.size) (.bin (qa0 op) x y):=
 ⟨w0.heap.size,vx,vy,rfl,⟨hB,hc.hi,hc.within,hc.c0,hc.c1,hc.c2,hc.c3,hc.c4,hc.c5,hc.c6⟩,hx.below hb,hy.below hb⟩
theorem CoAt.ptr{B E:Nat}{w:World}{v:Value}{c:Co}(h:CoAt B E w v c):∃b,v=.pointer (some ⟨b,0,none⟩):=by
 obtain⟨b,_,_,_,rfl,_⟩:=h.head;exact⟨b,rfl⟩
theorem vp7(op:Int){B:Nat}{w:World}(hB:B<=w.heap.size)(hL:LibOk w){x y:Co}{bx by':Nat}(hx:CoAt B w.heap.size w (.pointer (some ⟨bx,0,none⟩)) x)(hy:CoAt B w.heap.size w (.pointer (some ⟨by',0,none⟩)) y)(zx:(x9 x).length<=1000000000)(zy:(x9 y).length<=1000000000):
  Calls prog 115 #[.agg #[.int .i64 op,.pointer (some ⟨bx,0,none⟩),.pointer (some ⟨by',0,none⟩),.int .i64 0,.string ⟨#[]⟩,.string ⟨#[]⟩,.string ⟨#[]⟩]] w λe w'=>∃b,e=.returned (.pointer (some ⟨b,0,none⟩))/\CoAt B w'.heap.size w' (.pointer (some ⟨b,0,none⟩)) (.bin (qa0 op) x y)/\Below w.heap.size w w':=by
 have h:=va7 w hL (qa0 op) (.pointer (some ⟨bx,0,none⟩)) (.pointer (some ⟨by',0,none⟩)) (x9 x) (x9 y) (show Rng 0 from⟨by decide,by decide⟩) (Nat.zero_le _) (Nat.zero_le _) zx zy ⟨_,rfl⟩ ⟨_,rfl⟩ (λ_=>hx.text) (λ_ _=>hy.text);refine Calls.mono (show Calls prog 115 #[.agg #[.int .i64 op,.pointer (some ⟨bx,0,none⟩),.pointer (some ⟨by',0,none⟩),.int .i64 0,.string ⟨#[]⟩,.string ⟨#[]⟩,.string ⟨#[]⟩]] w _ from h) ?_;rintro e w'⟨rfl,hc,hb⟩;exact⟨w.heap.size,rfl,CoAt.two hB hc hb hx hy,hb⟩
theorem qh6(op:Int){B:Nat}{w:World}(hB:B<=w.heap.size)(hL:LibOk w){x y:Co}{vx vy:Value}(hx:CoAt B w.heap.size w vx x)(hy:CoAt B w.heap.size w vy y)(zx:(x9 x).length<=1000000000)(zy:(x9 y).length<=1000000000):
  Calls prog 111 #[.int .i64 op,vx,vy] w λe w'=>∃b,e=.returned (.pointer (some ⟨b,0,none⟩))/\CoAt B w'.heap.size w' (.pointer (some ⟨b,0,none⟩)) (j9 op x y)/\Below w.heap.size w w':=by
 obtain⟨bx,rfl⟩:=hx.ptr;obtain⟨by',rfl⟩:=hy.ptr;obtain⟨bx',ex,lK,cx⟩:=hx.text;obtain⟨BD,ey,xH,cy⟩:=hy.text;obtain rfl:bx'=bx:=by injection ex with ex;injection ex with ex;injection ex with ex;exact ex.symm
 obtain rfl:BD=by':=by injection ey with ey;injection ey with ey;injection ey with ey;exact ey.symm
 have S1:Hid (∀w1,Below w.heap.size w w1->Calls prog 115 #[.agg #[.int .i64 op,.pointer (some ⟨bx',0,none⟩),.pointer (some ⟨BD,0,none⟩),.int .i64 0,.string ⟨#[]⟩,.string ⟨#[]⟩,.string ⟨#[]⟩]] w1 λe w'=>∃b,e=.returned (.pointer (some ⟨b,0,none⟩))/\CoAt B w'.heap.size w' (.pointer (some ⟨b,0,none⟩)) (.bin (qa0 op) x y)/\Below w1.heap.size w1 w'):=
  j3 (λw1 hb=>vp7 op (Nat.le_trans hB hb.size) (hL.below hb (Nat.le_refl _)) (hx.below hb) (hy.below hb) zx zy)
 have S2:Hid (∀w1,Below w.heap.size w w1->Calls prog 115 #[.agg #[.int .i64 op,.pointer (some ⟨BD,0,none⟩),.pointer (some ⟨bx',0,none⟩),.int .i64 0,.string ⟨#[]⟩,.string ⟨#[]⟩,.string ⟨#[]⟩]] w1 λe w'=>∃b,e=.returned (.pointer (some ⟨b,0,none⟩))/\CoAt B w'.heap.size w' (.pointer (some ⟨b,0,none⟩)) (.bin (qa0 op) y x)/\Below w1.heap.size w1 w'):=
  j3 (λw1 hb=>vp7 op (Nat.le_trans hB hb.size) (hL.below hb (Nat.le_refl _)) (hy.below hb) (hx.below hb) zy zx)
 have A1:Op.bytesLess (BS (x9 y)).toList (BS (x9 x)).toList=Op.bytesLess (x9 y) (x9 x):=by rw[qc9,qc9]
 have DN:Hid (∀n,Below w.heap.size w (w.drewN n)):=j3 (λn=>⟨rfl,rfl,rfl,Nat.le_refl _,λ_ _=>rfl⟩);unfold j9;generalize Op.bytesLess (x9 y) (x9 x)=lt at *;clear hx hy zx zy hL hB ex ey
 cases he:qw2 op with
 | false=>
  rw[Bool.false_and,if_neg (by decide)];have TE:Hid (∀w,Calls prog 164 #[.int .i64 op] w λe w'=>e=.returned (.bool false)/\w'=w):=j3 (λw=>he ▸ qy0 op w);clear he;go_enter func111,ntmps111
  go_wp2_with fail
  go_quiet ((go_at_call 164;exact Calls.quiet_of_same (q9 TE _)))
  go_wp2_with(go_at_call 115;refine(q9 S1 _ (q9 DN _)).mono ?_;rintro e w2⟨b,rfl,hc,hb⟩)
  go_ret;exact⟨b,rfl,hc,j6 (q9 DN _) hb⟩
 | true=>
  rw[Bool.true_and];have TE:Hid (∀w,Calls prog 164 #[.int .i64 op] w λe w'=>e=.returned (.bool true)/\w'=w):=j3 (λw=>he ▸ qy0 op w);clear he
  cases lt with
  | false=>
   rw[if_neg (by decide)];go_enter func111,ntmps111
   go_wp2_with fail
   go_quiet ((go_at_call 164;exact Calls.quiet_of_same (q9 TE _)))
   go_wp2_with(go_at_call 115;refine(q9 S1 _ (q9 DN _)).mono ?_;rintro e w2⟨b,rfl,hc,hb⟩)
   go_ret;exact⟨b,rfl,hc,j6 (q9 DN _) hb⟩
  | true=>
   rw[if_pos rfl];go_enter func111,ntmps111
   go_wp2_with fail
   go_quiet ((go_at_call 164;exact Calls.quiet_of_same (q9 TE _)))
   go_wp2_with(go_at_call 115;refine(q9 S2 _ (q9 DN _)).mono ?_;rintro e w2⟨b,rfl,hc,hb⟩)
   go_ret;exact⟨b,rfl,hc,j6 (q9 DN _) hb⟩
def uC:Co->Nat
 | .leaf _=>1
 | .un _ x=>uC x
 | .bin p x y=>if p.op==6||p.op==7 then uC x+uC y else 1
theorem jt3:∀c,1<=uC c:=by
 intro c
 induction c with
 | leaf p=>exact Nat.le_refl _
 | un p x ih=>exact ih
 | bin p x y ihx ihy=>unfold uC;split<;>omega
theorem qj4(op:Int)(x y:Co):uC (j9 op x y)=if op==6||op==7 then uC x+uC y else 1:=by
 unfold j9
 split
 ·show(if(op==6||op==7)=true then uC y+uC x else 1)=_
  rw[Nat.add_comm]
 ·rfl
theorem uC_not:∀c,uC (qd8 c)=uC c:=by
 intro c
 induction c with
 | leaf p=>unfold qd8;split;rfl;split<;>rfl
 | un p x ih=>unfold qd8;split<;>rfl
 | bin p x y ihx ihy=>
  unfold qd8
  by_cases h6:(p.op==6)=true
  ·rw[if_pos h6,qj4,ihx,ihy]
   show(if((7:Int)==6||(7:Int)==7)=true then _ else _)=if(p.op==6||p.op==7)=true then _ else _
   rw[h6];rfl
  rw[if_neg h6]
  by_cases h7:(p.op==7)=true
  ·rw[if_pos h7,qj4,ihx,ihy]
   show(if((6:Int)==6||(6:Int)==7)=true then _ else _)=if(p.op==6||p.op==7)=true then _ else _
   rw[h7,Bool.or_true];rfl
  rw[if_neg h7]
  have hu:uC (.bin p x y)=1:=by
   show(if(p.op==6||p.op==7)=true then _ else _)=1;rw[if_neg];rw[Bool.eq_false_iff.2 h6,Bool.eq_false_iff.2 h7];decide
  by_cases h10:(p.op==10)=true
  ·rw[if_pos h10,qj4,hu];rfl
  rw[if_neg h10]
  by_cases L6:(p.op==11)=true
  ·rw[if_pos L6,qj4,hu];rfl
  rw[if_neg L6];rfl
theorem qb9(op:Int)(h1:qk8 op=false)(h2:unB op=false)(x y:Co):(x9 (j9 op x y)).length=(x9 x).length+(x9 y).length+4+(qi6 op).length:=by
 unfold j9
 split
 ·show(qb1 (qa0 op) (x9 y) (x9 x)).length=_
  rw[vt3 h1 h2];simp;omega
 ·show(qb1 (qa0 op) (x9 x) (x9 y)).length=_
  rw[vt3 h1 h2];simp;omega
def binB(op:Int):Bool:=!qk8 op&&!unB op
theorem qj0{p:CP}(h:binB p.op=true)(x y:Co):(x9 (.bin p x y)).length=(x9 x).length+(x9 y).length+4+(qi6 p.op).length:=by
 show(qb1 p (x9 x) (x9 y)).length=_;unfold binB qk8 unB at h;simp only[Bool.and_eq_true,Bool.not_eq_true',Bool.or_eq_false_iff]at h;obtain⟨⟨⟨⟨⟨a,b⟩,c⟩,d⟩,e⟩,⟨f,g⟩,i⟩:=h;simp only[qb1,a,b,c,d,e,f,g,i];simp;omega
def WfC:Co->Prop
 | .leaf p=>qk8 p.op=true
 | .un p x=>unB p.op=true/\WfC x
 | .bin p x y=>binB p.op=true/\WfC x/\WfC y
theorem qf8{op:Int}(h:binB op=true){x y:Co}(hx:WfC x)(hy:WfC y):WfC (j9 op x y):=by
 unfold j9
 split
 ·exact⟨h,hy,hx⟩
 ·exact⟨h,hx,hy⟩
theorem wfC_not:∀c,WfC c->WfC (qd8 c):=by
 intro c
 induction c with
 | leaf p=>intro h;unfold qd8;split;exact rfl;split;exact rfl;exact⟨rfl,h⟩
 | un p x ih=>intro h;unfold qd8;split;exact h.2;exact⟨rfl,h⟩
 | bin p x y ihx ihy=>
  intro h;unfold qd8
  split
  ·exact qf8 rfl (ihx h.2.1) (ihy h.2.2)
  split
  ·exact qf8 rfl (ihx h.2.1) (ihy h.2.2)
  split
  ·exact qf8 rfl h.2.2 h.2.1
  split
  ·exact qf8 rfl h.2.2 h.2.1
  ·exact⟨rfl,h⟩
theorem vg0(c:Co):(x9 (.un (qa0 5) c)).length=(x9 c).length+6:=by
 show(qb1 (qa0 5) (x9 c) []).length=_;simp[qb1,qa0]
theorem qm2:∀c,WfC c->(x9 (qd8 c)).length+1<=(x9 c).length+7 * uC c:=by
 intro c
 induction c with
 | leaf p=>
  intro _;unfold qd8
  split
  ·rename_i h;have:(x9 (.leaf p)).length=4:=by show(qb1 p [] []).length=4;rw[qb1,eq_of_beq h];rfl
   show 5+1<=_+7 * 1;omega
  split
  ·show 4+1<=_+7 * 1;omega
  ·rw[vg0];show _<=_+7 * 1;omega
 | un p x ih=>
  intro hw;have hp:=jt3 x;unfold qd8
  split
  ·rename_i h
   simp only[Bool.and_eq_true,beq_iff_eq]at h;have:(x9 (.un p x)).length=(x9 x).length+6:=by show(qb1 p (x9 x) []).length=_;simp[qb1,h.1]
   show _<=_+7 * uC x;omega
  ·rw[vg0];show _<=_+7 * uC x;omega
 | bin p x y ihx ihy=>
  intro hw;have hx:=ihx hw.2.1;have hy:=ihy hw.2.2;have hs:=qj0 hw.1 x y;have vF:=vd4 p.op;unfold qd8
  by_cases h6:(p.op==6)=true
  ·rw[if_pos h6,qb9 7 rfl rfl,hs]
   have:uC (.bin p x y)=uC x+uC y:=by show(if(p.op==6||p.op==7)=true then _ else _)=_;rw[h6];rfl
   rw[this];have:(qi6 p.op).length=3:=by rw[eq_of_beq h6];rfl
   show _+_+4+2+1<=_;omega
  rw[if_neg h6]
  by_cases h7:(p.op==7)=true
  ·rw[if_pos h7,qb9 6 rfl rfl,hs]
   have:uC (.bin p x y)=uC x+uC y:=by show(if(p.op==6||p.op==7)=true then _ else _)=_;rw[h7,Bool.or_true];rfl
   rw[this];have:(qi6 p.op).length=2:=by rw[eq_of_beq h7];rfl
   show _+_+4+3+1<=_;omega
  rw[if_neg h7]
  have hu:uC (.bin p x y)=1:=by
   show(if(p.op==6||p.op==7)=true then _ else _)=1;rw[if_neg];rw[Bool.eq_false_iff.2 h6,Bool.eq_false_iff.2 h7];decide
  rw[hu]
  by_cases h10:(p.op==10)=true
  ·rw[if_pos h10,qb9 11 rfl rfl,hs]
   show _+_+4+2+1<=_;omega
  rw[if_neg h10]
  by_cases L6:(p.op==11)=true
  ·rw[if_pos L6,qb9 10 rfl rfl,hs]
   show _+_+4+1+1<=_;omega
  rw[if_neg L6,vg0];omega
def vb3(c:Co):Prop:=∀(B:Nat) (w:World) (v:Value),B<=w.heap.size->LibOk w->CoAt B w.heap.size w v c ->
 Calls prog 113 #[v] w λe w'=>∃b,e=.returned (.pointer (some ⟨b,0,none⟩))/\CoAt B w'.heap.size w' (.pointer (some ⟨b,0,none⟩)) (qd8 c)/\Below w.heap.size w w'
theorem qp2(p:CP)(hp:qk8 p.op=true)(hn:Rng p.num)(h4:p.str.length<=1000000000)(h5:p.esc.length<=1000000000){B:Nat}{w:World}(hB:B<=w.heap.size)(hL:LibOk w):
  Calls prog 115 #[.agg #[.int .i64 p.op,.pointer none,.pointer none,.int .i64 p.num,.string (BS p.str),.string (BS p.esc),.string ⟨#[]⟩]] w λe w'=>∃b,e=.returned (.pointer (some ⟨b,0,none⟩))/\CoAt B w'.heap.size w' (.pointer (some ⟨b,0,none⟩)) (.leaf p)/\Below w.heap.size w w':=by
 refine Calls.mono (show Calls prog 115 #[.agg #[.int .i64 p.op,.pointer none,.pointer none,.int .i64 p.num,.string (BS p.str),.string (BS p.esc),.string ⟨#[]⟩]] w _ from va7 w hL p (.pointer none) (.pointer none) [] [] hn h4 h5 (Nat.zero_le _) (Nat.zero_le _) ⟨_,rfl⟩ ⟨_,rfl⟩ (λh=>by rw[hp]at h;cases h) (λh=>by rw[hp]at h;cases h)) ?_;rintro e w'⟨rfl,hc,hb⟩;exact⟨w.heap.size,rfl,⟨w.heap.size,rfl,⟨hB,hc.hi,hc.within,hc.c0,hc.c1,hc.c2,hc.c3,hc.c4,hc.c5,hc.c6⟩⟩,hb⟩
theorem va8(p:CP)(hp:unB p.op=true)(hn:Rng p.num)(h4:p.str.length<=1000000000)(h5:p.esc.length<=1000000000){B:Nat}{w:World}(hB:B<=w.heap.size)(hL:LibOk w){x:Co}{bx:Nat}(hx:CoAt B w.heap.size w (.pointer (some ⟨bx,0,none⟩)) x)(zx:(x9 x).length<=1000000000):
  Calls prog 115 #[.agg #[.int .i64 p.op,.pointer (some ⟨bx,0,none⟩),.pointer none,.int .i64 p.num,.string (BS p.str),.string (BS p.esc),.string ⟨#[]⟩]] w λe w'=>∃b,e=.returned (.pointer (some ⟨b,0,none⟩))/\CoAt B w'.heap.size w' (.pointer (some ⟨b,0,none⟩)) (.un p x)/\Below w.heap.size w w':=by
 refine Calls.mono (show Calls prog 115 #[.agg #[.int .i64 p.op,.pointer (some ⟨bx,0,none⟩),.pointer none,.int .i64 p.num,.string (BS p.str),.string (BS p.esc),.string ⟨#[]⟩]] w _ from va7 w hL p (.pointer (some ⟨bx,0,none⟩)) (.pointer none) (x9 x) [] hn h4 h5 zx (Nat.zero_le _) ⟨_,rfl⟩ ⟨_,rfl⟩ (λ_=>hx.text) (λ_ h=>by rw[hp]at h;cases h)) ?_;rintro e w'⟨rfl,hc,hb⟩;exact⟨w.heap.size,rfl,⟨w.heap.size,_,rfl,⟨hB,hc.hi,hc.within,hc.c0,hc.c1,hc.c2,hc.c3,hc.c4,hc.c5,hc.c6⟩,hx.below hb⟩,hb⟩
theorem dem_true{want pl:Int}:∀{rs:List CRes} {fit:Bool},dem want pl rs fit=none->fit=true:=by
 intro rs
 induction rs with
 | nil=>intro fit h;cases fit;cases h;rfl
 | cons r t ih=>
  intro fit h
  cases r with
  | err q=>cases h
  | ok c=>
   have:=ih (fit:=fit&&(c==want||c==0)) h;rw[Bool.and_eq_true]at this;exact this.1
theorem dem_none{want pl:Int}:∀{rs:List CRes} {fit:Bool},dem want pl rs fit=none->∀r∈rs,∃c,r=.ok c/\(c=want\/c=0):=by
 intro rs
 induction rs with
 | nil=>intro fit _ r hr;cases hr
 | cons r t ih=>
  intro fit h
  cases r with
  | err q=>cases h
  | ok c=>
   have h':dem want pl t (fit&&(c==want||c==0))=none:=h;have hf:=dem_true h';rw[Bool.and_eq_true,Bool.or_eq_true,beq_iff_eq,beq_iff_eq]at hf;intro r hr;rcases List.mem_cons.1 hr with rfl|hr
   ·exact⟨c,rfl,hf.2⟩
   ·exact ih h' r hr
theorem qg6{want pl c d:Int}{rs:List CRes}(h:qt7 want pl c rs=.ok d):∀r∈rs,∃c,r=.ok c/\(c=want\/c=0):=by
 unfold qt7 at h
 split at h
 ·rename_i hd;exact dem_none hd
 ·cases h
theorem vi0{pl c:Int}{a b:CRes}(h:qq1 pl a b=.ok c):(∃c,a=.ok c)/\∃c,b=.ok c:=by
 cases a with
 | err q=>cases h
 | ok x=>
  cases b with
  | err q=>cases h
  | ok y=>exact⟨⟨x,rfl⟩,⟨y,rfl⟩⟩
def ArA:Ast->Prop
 | .leaf p=>p.op=0\/p.op=1
 | .un p x=>(p.op=14\/p.op=15)/\ArA x
 | .bin p x y=>16<=p.op/\p.op<=19/\ArA x/\ArA y
 | .tri _ _ _ _=>False
theorem vk0:∀t c,ShA t->qb3 t=.ok c->(c=1\/c=0)->ArA t:=by
 intro t
 induction t with
 | leaf p=>
  intro c hs hc h;have hc:qg1 p.op p.place []=.ok c:=hc;have hs:0<=p.op/\p.op<=4:=hs;rcases(show p.op=0\/p.op=1\/p.op=2\/p.op=3\/p.op=4 by omega) with e|e|e|e|e
  ·exact .inl e
  ·exact .inr e
  all_goals(rw[e]at hc;injection hc with hc;omega)
 | un p x ih=>
  intro c hs hc h;have hc:qg1 p.op p.place [qb3 x]=.ok c:=hc;rcases hs.1 with e|e|e|e|e|e
  ·rw[e]at hc
   have hc:qt7 3 p.place 3 [qb3 x]=.ok c:=hc;exfalso;unfold qt7 at hc
   split at hc
   ·injection hc with hc;omega
   ·cases hc
  ·rw[e]at hc
   obtain⟨d,h1,h2⟩:=qg6 (show qt7 1 p.place 1 [qb3 x]=.ok c from hc) (qb3 x) (by simp);exact⟨.inl e,ih d hs.2.2.2 h1 h2⟩
  ·rw[e]at hc
   obtain⟨d,h1,h2⟩:=qg6 (show qt7 1 p.place 1 [qb3 x]=.ok c from hc) (qb3 x) (by simp);exact⟨.inr e,ih d hs.2.2.2 h1 h2⟩
  all_goals(rw[e]at hc;injection hc with hc;omega)
 | bin p x y ihx ihy=>
  intro c hs hc h;have hc:qg1 p.op p.place [qb3 x,qb3 y]=.ok c:=hc
  have d3:∀w,qt7 w p.place 3 [qb3 x,qb3 y]=.ok c->False:=λw hc=>by
   unfold qt7 at hc
   split at hc
   ·injection hc with hc;omega
   ·cases hc
  have a3:qq1 p.place (qb3 x) (qb3 y)=.ok c->False:=λhc=>by
   obtain⟨⟨a,ea⟩,b,eb⟩:=vi0 hc;rw[ea,eb]at hc;have hc:(if(a != b&&a != 0&&b != 0)=true then CRes.err p.place else CRes.ok 3)=.ok c:=hc
   split at hc
   ·cases hc
   ·injection hc with hc;omega
  have d1:qt7 1 p.place 1 [qb3 x,qb3 y]=.ok c->ArA x/\ArA y:=λhc=>by
   obtain⟨d,h1,h2⟩:=qg6 hc (qb3 x) (by simp);obtain⟨e,h3,h4⟩:=qg6 hc (qb3 y) (by simp);exact⟨ihx d hs.2.1 h1 h2,ihy e hs.2.2 h3 h4⟩
  rcases(show p.op=6\/p.op=7\/p.op=8\/p.op=9\/p.op=10\/p.op=11\/p.op=12\/p.op=13\/p.op=16\/p.op=17\/p.op=18\/p.op=19 by have:=hs.1;omega) with e|e|e|e|e|e|e|e|e|e|e|e
  ·rw[e]at hc;exact absurd hc (d3 3)
  ·rw[e]at hc;exact absurd hc (d3 3)
  ·rw[e]at hc;exact absurd hc a3
  ·rw[e]at hc;exact absurd hc a3
  ·rw[e]at hc;exact absurd hc (d3 1)
  ·rw[e]at hc;exact absurd hc (d3 1)
  ·rw[e]at hc;exact absurd hc (d3 1)
  ·rw[e]at hc;exact absurd hc (d3 1)
  all_goals(rw[e]at hc;exact⟨by omega,by omega,(d1 hc).1,(d1 hc).2⟩)
 | tri p x y z ihx ihy ihz=>
  intro c hs hc h;have hc:qg1 p.op p.place [qb3 x,qb3 y,qb3 z]=.ok c:=hc;rw[hs.1]at hc;have hc:qt7 1 p.place 3 [qb3 x,qb3 y,qb3 z]=.ok c:=hc;exfalso;unfold qt7 at hc
  split at hc
  ·injection hc with hc;omega
  ·cases hc
theorem vc1(p:CP)(hs:p.str.length<=200)(hn:Rng p.num)(ho:qk8 p.op=true):(x9 (.leaf p)).length<=402:=by
 show(qb1 p [] []).length<=402;have hq:=vc4 p.str;have hi:=Lib.itoa_length_le p.num hn.1 hn.2;unfold qk8 at ho;simp only[Bool.or_eq_true,beq_iff_eq]at ho;unfold qb1;rcases ho with(((e|e)|e)|e)|e
 ·rw[e];show p.str.length<=402;omega
 ·rw[e];show(Lib.itoa p.num).length<=402;omega
 ·rw[e];show(qL p.str).length<=402;omega
 ·rw[e];show 4<=402;omega
 ·rw[e];show 5<=402;omega
theorem vi6:(x9 (qz1 0)).length<=21:=Lib.itoa_length_le 0 (by decide) (by decide)
theorem ar_len:∀t,ArA t->vg4 t->vg5 t->(x9 (j8 t)).length<=500 * ndA t:=by
 intro t
 induction t with
 | leaf p=>
  intro ha hb hn;have:=vc1 (qt4 p) hb.1 hn (by unfold qk8;rcases ha with e|e<;>simp[qt4,e]);show(x9 (.leaf (qt4 p))).length<=500 * 1;omega
 | un p x ih=>
  intro ha hb hn;have h:=ih ha.2 hb.2 hn.2;have hz:(x9 (qz1 0)).length<=21:=vi6;have I3:ndA (.un p x)=1+p.texts.length+ndA x:=rfl;rcases ha.1 with e|e
  ·have:j8 (.un p x)=j9 16 (qz1 0) (j8 x):=by rw[j8,e];rfl
   rw[this,qb9 16 rfl rfl,I3];have:(qi6 16).length=1:=rfl;omega
  ·have:j8 (.un p x)=j9 17 (qz1 0) (j8 x):=by rw[j8,e];rfl
   rw[this,qb9 17 rfl rfl,I3];have:(qi6 17).length=1:=rfl;omega
 | bin p x y ihx ihy=>
  intro ha hb hn;obtain⟨h1,h2,ax,ay⟩:=ha;have hx:=ihx ax hb.2.1 hn.2.1;have hy:=ihy ay hb.2.2 hn.2.2;have I3:ndA (.bin p x y)=1+ndA x+ndA y:=rfl;have vF:=vd4 p.op
  have:j8 (.bin p x y)=j9 p.op (j8 x) (j8 y):=by
   rw[j8,if_neg (by simp;omega),if_neg (by simp;omega),if_neg (by simp;omega)]
  rw[this,qb9 p.op (by unfold qk8;simp;omega) (by unfold unB;simp;omega),I3];omega
 | tri p x y z ihx ihy ihz=>intro ha;exact absurd ha id
theorem jm6{zs:List (List UInt8)}{x:List UInt8}(h:x∈Lib.compact zs):x∈zs:=by
 unfold Lib.compact Lib.compactUpTo at h;obtain⟨i,hi,rfl⟩:=List.mem_map.1 h;have hi:=List.mem_range.1 (List.mem_filter.1 hi).1;have:zs.toArray[i]! = zs[i]:=by simp[hi]
 rw[this];exact List.getElem_mem _
theorem vk5(zs:List (List UInt8)):(Lib.compact zs).length<=zs.length:=by
 unfold Lib.compact Lib.compactUpTo;rw[List.length_map];exact Nat.le_trans (List.length_filter_le _ _) (by rw[List.length_range];exact Nat.le_refl _)
theorem ju7{zs:List (List UInt8)}(h:zs≠[]):Lib.compact zs≠[]:=by
 cases zs with
 | nil=>exact absurd rfl h
 | cons a r=>
  intro e;unfold Lib.compact Lib.compactUpTo at e;rw[List.map_eq_nil_iff]at e;have:0∈(List.range (a::r).length).filter (Lib.keeps (a::r).toArray):=List.mem_filter.2 ⟨List.mem_range.2 (by simp),Lib.keeps_lt_one _ 0 (by decide)⟩;rw[e]at this;cases this
theorem qx9{ts:List (List UInt8)}{x:List UInt8}(h:x∈qe5 ts):x∈ts:=by
 unfold qe5 at h;exact(List.mem_mergeSort).1 (jm6 h)
theorem vd6(ts:List (List UInt8)):(qe5 ts).length<=ts.length:=by
 unfold qe5;exact Nat.le_trans (vk5 _) (by rw[List.length_mergeSort];exact Nat.le_refl _)
theorem vj1{ts:List (List UInt8)}(h:ts≠[]):qe5 ts≠[]:=by
 unfold qe5;refine ju7 (λe=>h ?_);have:=congrArg List.length e;rw[List.length_mergeSort]at this;exact List.eq_nil_of_length_eq_zero this
theorem qp3(t:List UInt8)(h:t.length<=200):(x9 (qd4 t)).length<=402:=by
 show(qL t).length<=402;have:=vc4 t;omega
theorem vn2(x:Co):∀(r:List (List UInt8)) (f:Co),(∀t∈r,t.length<=200)->(x9 (qm8 x f r)).length<=(x9 f).length+r.length * ((x9 x).length+420):=by
 intro r
 induction r with
 | nil=>intro f _;show(x9 f).length<=_;omega
 | cons t r ih=>
  intro f h;have h1:=ih (j9 7 f (j9 8 x (qd4 t))) (λu hu=>h u (List.mem_cons_of_mem _ hu));rw[qb9 7 rfl rfl,qb9 8 rfl rfl]at h1;have h2:=qp3 t (h t List.mem_cons_self);have e7:(qi6 7).length=2:=rfl;have e8:(qi6 8).length=1:=rfl;show(x9 (qm8 x (j9 7 f (j9 8 x (qd4 t))) r)).length<=_;rw[List.length_cons,Nat.succ_mul];omega
theorem orAll_u(x:Co):∀(r:List (List UInt8)) (f:Co),uC (qm8 x f r)=uC f+r.length:=by
 intro r
 induction r with
 | nil=>intro f;rfl
 | cons t r ih=>
  intro f;show uC (qm8 x (j9 7 f (j9 8 x (qd4 t))) r)=_;rw[ih,qj4,qj4];show uC f+1+r.length=_;rw[List.length_cons];omega
theorem jr8{x:Co}(hx:WfC x):∀(r:List (List UInt8)) (f:Co),WfC f->WfC (qm8 x f r):=by
 intro r
 induction r with
 | nil=>intro f h;exact h
 | cons t r ih=>intro f h;exact ih _ (qf8 rfl h (qf8 rfl hx rfl))
theorem qn8{x:Ast}(hs:ShA x)(h:opA x=0):∃q,x=.leaf q/\q.op=0:=by
 cases x with
 | leaf q=>exact⟨q,rfl,h⟩
 | un p y=>have:=hs.1;have h:p.op=0:=h;omega
 | bin p y z=>have:=hs.1;have h:p.op=0:=h;omega
 | tri p y z u=>have:=hs.1;have h:p.op=0:=h;omega
theorem sq_add(a b:Nat)(k:Nat)(hk:k<=3000):3000 * (a * a)+3000 * (b * b)+k<=3000 * ((1+a+b) * (1+a+b)):=by
 have:(1+a+b) * (1+a+b)=a * a+b * b+2 * (a * b)+2 * a+2 * b+1:=by
  simp only[Nat.add_mul,Nat.mul_add,Nat.one_mul,Nat.mul_one];have:=Nat.mul_comm b a;omega
 rw[this];omega
theorem jf6(a m:Nat)(k:Nat)(hk:k<=3000+6000 * a):3000 * (a * a)+k<=3000 * ((1+m+a) * (1+m+a)):=by
 have h1:(1+a) * (1+a)<=(1+m+a) * (1+m+a):=Nat.mul_le_mul (by omega) (by omega)
 have h2:(1+a) * (1+a)=a * a+2 * a+1:=by
  simp only[Nat.add_mul,Nat.mul_add,Nat.one_mul,Nat.mul_one];omega
 omega
structure Gd(t:Ast):Prop where
 len:(x9 (j8 t)).length<=3000 * (ndA t * ndA t)
 un:uC (j8 t)<=ndA t
 wf:WfC (j8 t)
theorem nd_pos:∀t,1<=ndA t:=by
 intro t;cases t<;>(unfold ndA;omega)
def GdA:Ast->Prop
 | .leaf p=>Gd (.leaf p)
 | .un p x=>Gd (.un p x)/\GdA x
 | .bin p x y=>Gd (.bin p x y)/\GdA x/\GdA y
 | .tri p x y z=>Gd (.tri p x y z)/\GdA x/\GdA y/\GdA z
theorem GdA.gd{t:Ast}(h:GdA t):Gd t:=by
 cases t with
 | leaf p=>exact h
 | un p x=>exact h.1
 | bin p x y=>exact h.1
 | tri p x y z=>exact h.1
theorem gd_leaf(p:Pay)(hs:ShA (.leaf p))(hb:vg4 (.leaf p))(hn:vg5 (.leaf p)):Gd (.leaf p):=by
 have hl:qk8 (qt4 p).op=true:=by
  have hs:0<=p.op/\p.op<=4:=hs;unfold qk8 qt4;simp only[Bool.or_eq_true,beq_iff_eq];omega
 refine⟨?_,Nat.le_refl _,hl⟩;have:=vc1 (qt4 p) hb.1 hn hl;show(x9 (.leaf (qt4 p))).length<=3000 * (1 * 1);omega
theorem jk7{op:Int}(H6:binB op=true){p:Pay}{x y:Ast}(hx:Gd x)(hy:Gd y)(u v:Co)(hu:(u=j8 x/\v=j8 y)\/(u=j8 y/\v=j8 x))(he:j8 (.bin p x y)=j9 op u v):Gd (.bin p x y):=by
 have F9:qk8 op=false/\unB op=false:=by
  unfold binB at H6;simpa using H6
 have hl:(x9 u).length+(x9 v).length=(x9 (j8 x)).length+(x9 (j8 y)).length:=by rcases hu with⟨rfl,rfl⟩|⟨rfl,rfl⟩<;>omega
 have hc:uC u+uC v=uC (j8 x)+uC (j8 y):=by rcases hu with⟨rfl,rfl⟩|⟨rfl,rfl⟩<;>omega
 have hw:WfC u/\WfC v:=by
  rcases hu with⟨rfl,rfl⟩|⟨rfl,rfl⟩
  ·exact⟨hx.wf,hy.wf⟩
  ·exact⟨hy.wf,hx.wf⟩
 have vF:=vd4 op;have h1:=hx.len;have h2:=hy.len;have h3:=hx.un;have h4:=hy.un;have I3:ndA (.bin p x y)=1+ndA x+ndA y:=rfl;refine⟨?_, ?_, ?_⟩
 ·rw[he,qb9 op F9.1 F9.2,I3]
  have:=sq_add (ndA x) (ndA y) 7 (by decide);omega
 ·rw[he,qj4,I3]
  split<;>omega
 ·rw[he];exact qf8 H6 hw.1 hw.2
theorem gd_every:∀t,ShA t->vg4 t->vg5 t->BqA t->(∃c,qb3 t=.ok c)->GdA t:=by
 intro t
 induction t with
 | leaf p=>intro hs hb hn _ _;exact gd_leaf p hs hb hn
 | un p x ih=>
  intro hs hb hn hq hc;obtain⟨c,hc⟩:=hc;have hc:qg1 p.op p.place [qb3 x]=.ok c:=hc
  have cS:∃d,qb3 x=.ok d:=by
   rcases hs.1 with e|e|e|e|e|e
   ·rw[e]at hc
    obtain⟨d,h1,_⟩:=qg6 (show qt7 3 p.place 3 [qb3 x]=.ok c from hc) (qb3 x) (by simp);exact⟨d,h1⟩
   ·rw[e]at hc
    obtain⟨d,h1,_⟩:=qg6 (show qt7 1 p.place 1 [qb3 x]=.ok c from hc) (qb3 x) (by simp);exact⟨d,h1⟩
   ·rw[e]at hc
    obtain⟨d,h1,_⟩:=qg6 (show qt7 1 p.place 1 [qb3 x]=.ok c from hc) (qb3 x) (by simp);exact⟨d,h1⟩
   all_goals
    obtain⟨q,rfl,jU⟩:=qn8 hs.2.2.2 (hs.2.2.1 (by omega));exact⟨0,by show qg1 q.op q.place []=.ok 0;rw[jU];rfl⟩
  have hx:=ih hs.2.2.2 hb.2 hn.2 hq.2 cS;refine⟨?_,hx⟩;have gx:=hx.gd;have h1:=gx.len;have h2:=gx.un;have h3:=nd_pos x;have I3:ndA (.un p x)=1+p.texts.length+ndA x:=rfl;have hz:=vi6;rcases hs.1 with e|e|e|e|e|e
  ·have he:j8 (.un p x)=qd8 (j8 x):=by rw[j8,e];rfl
   have hl:=qm2 (j8 x) gx.wf;refine⟨?_,by rw[he,uC_not,I3];omega,by rw[he];exact wfC_not _ gx.wf⟩;rw[he,I3];have:=jf6 (ndA x) p.texts.length (7 * ndA x) (by omega);omega
  ·have he:j8 (.un p x)=j9 16 (qz1 0) (j8 x):=by rw[j8,e];rfl
   have wG:(qi6 16).length=1:=rfl;refine⟨?_,by rw[he,qj4,I3];show 1<=_;omega,by rw[he];exact qf8 rfl rfl gx.wf⟩;rw[he,qb9 16 rfl rfl,I3];have:=jf6 (ndA x) p.texts.length 30 (by omega);omega
  ·have he:j8 (.un p x)=j9 17 (qz1 0) (j8 x):=by rw[j8,e];rfl
   have wF:(qi6 17).length=1:=rfl;refine⟨?_,by rw[he,qj4,I3];show 1<=_;omega,by rw[he];exact qf8 rfl rfl gx.wf⟩;rw[he,qb9 17 rfl rfl,I3];have:=jf6 (ndA x) p.texts.length 30 (by omega);omega
  ·have he:j8 (.un p x)=qh1 (j8 x) p.texts:=by rw[j8,e];rfl
   have C1:=vj1 (hs.2.1 e);have lP:=vd6 p.texts;have hm:∀u∈qe5 p.texts,u.length<=200:=λu hu=>hq.1.2 u (qx9 hu)
   obtain⟨q,rfl,jU⟩:=qn8 hs.2.2.2 (hs.2.2.1 (by omega));have SJ:(x9 (j8 (.leaf q))).length<=402:=vc1 (qt4 q) hb.2.1 hn.2 (by unfold qk8;simp[qt4,jU])
   cases hsort:qe5 p.texts with
   | nil=>exact absurd hsort C1
   | cons u r=>
    rw[hsort]at hm lP;have kH:j8 (.un p (.leaf q))=qm8 (j8 (.leaf q)) (j9 8 (j8 (.leaf q)) (qd4 u)) r:=by rw[he,qh1,hsort]
    have l7:=vn2 (j8 (.leaf q)) r (j9 8 (j8 (.leaf q)) (qd4 u)) (λy hy=>hm y (List.mem_cons_of_mem _ hy));rw[qb9 8 rfl rfl]at l7;have U2:=qp3 u (hm u List.mem_cons_self);have e8:(qi6 8).length=1:=rfl;rw[List.length_cons]at lP;refine⟨?_, ?_, ?_⟩
    ·rw[kH,I3]
     have LU:r.length * ((x9 (j8 (.leaf q))).length+420)<=r.length * 822:=Nat.mul_le_mul_left _ (by omega);have LD:(1+p.texts.length+ndA (.leaf q)) * 1<=(1+p.texts.length+ndA (.leaf q)) * (1+p.texts.length+ndA (.leaf q)):=Nat.mul_le_mul_left _ (by omega);omega
    ·rw[kH,orAll_u,qj4,I3]
     show 1+_<=_;omega
    ·rw[kH]
     exact jr8 gx.wf _ _ (qf8 rfl gx.wf rfl)
  ·have he:j8 (.un p x)=.un (qt4 p) (j8 x):=by rw[j8,e];rfl
   have hl:(x9 (.un (qt4 p) (j8 x))).length<=(x9 (j8 x)).length+830:=by
    show(qb1 (qt4 p) (x9 (j8 x)) []).length<=_;have a:=vc4 p.str;have b:=vc4 p.esc;have c1:=hb.1.1;have c2:=hq.1.1;have d:(vz3 p.esc).length<=8+(qL p.esc).length:=by unfold vz3;split<;>simp<;>omega
    rw[qb1];simp only[qt4,e];simp;omega
   refine⟨?_,by rw[he,I3];show uC (j8 x)<=_;omega,by rw[he];exact⟨by unfold unB;simp[qt4,e],gx.wf⟩⟩;rw[he,I3];have:=jf6 (ndA x) p.texts.length 830 (by omega);omega
  ·have he:j8 (.un p x)=.un (qt4 p) (j8 x):=by rw[j8,e];rfl
   have hl:(x9 (.un (qt4 p) (j8 x))).length=(x9 (j8 x)).length+10:=by
    show(qb1 (qt4 p) (x9 (j8 x)) []).length=_;rw[qb1];simp only[qt4,e];simp
   refine⟨?_,by rw[he,I3];show uC (j8 x)<=_;omega,by rw[he];exact⟨by unfold unB;simp[qt4,e],gx.wf⟩⟩;rw[he,I3];have:=jf6 (ndA x) p.texts.length 10 (by omega);omega
 | bin p x y ihx ihy=>
  intro hs hb hn hq hc;obtain⟨c,hc⟩:=hc;have hc:qg1 p.op p.place [qb3 x,qb3 y]=.ok c:=hc
  have O5:(∃d,qb3 x=.ok d)/\∃d,qb3 y=.ok d:=by
   have dm:∀w k,qt7 w p.place k [qb3 x,qb3 y]=.ok c->(∃d,qb3 x=.ok d)/\∃d,qb3 y=.ok d:=λw k h=>by
    obtain⟨d,h1,_⟩:=qg6 h (qb3 x) (by simp);obtain⟨e,h3,_⟩:=qg6 h (qb3 y) (by simp);exact⟨⟨d,h1⟩,⟨e,h3⟩⟩
   rcases(show p.op=6\/p.op=7\/p.op=8\/p.op=9\/p.op=10\/p.op=11\/p.op=12\/p.op=13\/p.op=16\/p.op=17\/p.op=18\/p.op=19 by have:=hs.1;omega) with e|e|e|e|e|e|e|e|e|e|e|e<;>rw[e]at hc
   ·exact dm 3 3 hc
   ·exact dm 3 3 hc
   ·exact vi0 (show qq1 p.place (qb3 x) (qb3 y)=.ok c from hc)
   ·exact vi0 (show qq1 p.place (qb3 x) (qb3 y)=.ok c from hc)
   ·exact dm 1 3 hc
   ·exact dm 1 3 hc
   ·exact dm 1 3 hc
   ·exact dm 1 3 hc
   ·exact dm 1 1 hc
   ·exact dm 1 1 hc
   ·exact dm 1 1 hc
   ·exact dm 1 1 hc
  have hx:=ihx hs.2.1 hb.2.1 hn.2.1 hq.2.1 O5.1;have hy:=ihy hs.2.2 hb.2.2 hn.2.2 hq.2.2 O5.2;refine⟨?_,hx,hy⟩;have gx:=hx.gd;have gy:=hy.gd
  by_cases F9:p.op=12
  ·exact jk7 (op:=10) rfl gx gy (j8 y) (j8 x) (.inr ⟨rfl,rfl⟩) (by rw[j8,F9];rfl)
  by_cases h13:p.op=13
  ·exact jk7 (op:=11) rfl gx gy (j8 y) (j8 x) (.inr ⟨rfl,rfl⟩) (by rw[j8,h13];rfl)
  by_cases h9:p.op=9
  ·have he:j8 (.bin p x y)=qd8 (j9 8 (j8 x) (j8 y)):=by rw[j8,h9];rfl
   have hw:WfC (j9 8 (j8 x) (j8 y)):=qf8 rfl gx.wf gy.wf;have hl:=qm2 _ hw;have hu:uC (j9 8 (j8 x) (j8 y))=1:=by rw[qj4];rfl
   rw[hu,qb9 8 rfl rfl]at hl;have e8:(qi6 8).length=1:=rfl;have h1:=gx.len;have h2:=gy.len;have I3:ndA (.bin p x y)=1+ndA x+ndA y:=rfl;refine⟨?_,by rw[he,uC_not,hu,I3];omega,by rw[he];exact wfC_not _ hw⟩;rw[he,I3];have:=sq_add (ndA x) (ndA y) 20 (by decide);omega
  ·refine jk7 (op:=p.op) ?_ gx gy (j8 x) (j8 y) (.inl ⟨rfl,rfl⟩) (by rw[j8,if_neg (by simpa using F9),if_neg (by simpa using h13),if_neg (by simpa using h9)])
   have:=hs.1;unfold binB qk8 unB;simp only[Bool.and_eq_true,Bool.not_eq_true',Bool.or_eq_false_iff,beq_eq_false_iff_ne];omega
 | tri p x y z ihx ihy ihz=>
  intro hs hb hn hq hc;obtain⟨c,hc⟩:=hc;have hc:qg1 p.op p.place [qb3 x,qb3 y,qb3 z]=.ok c:=hc;rw[hs.1]at hc;have hc:qt7 1 p.place 3 [qb3 x,qb3 y,qb3 z]=.ok c:=hc;obtain⟨d1,x1,x2⟩:=qg6 hc (qb3 x) (by simp);obtain⟨d2,y1,y2⟩:=qg6 hc (qb3 y) (by simp);obtain⟨d3,z1,z2⟩:=qg6 hc (qb3 z) (by simp);have hx:=ihx hs.2.1 hb.2.1 hn.2.1 hq.2.1 ⟨_,x1⟩;have hy:=ihy hs.2.2.1 hb.2.2.1 hn.2.2.1 hq.2.2.1 ⟨_,y1⟩;have hz:=ihz hs.2.2.2 hb.2.2.2 hn.2.2.2 hq.2.2.2 ⟨_,z1⟩;refine⟨?_,hx,hy,hz⟩;have ax:=ar_len x (vk0 x d1 hs.2.1 x1 x2) hb.2.1 hn.2.1;have ay:=ar_len y (vk0 y d2 hs.2.2.1 y1 y2) hb.2.2.1 hn.2.2.1;have az:=ar_len z (vk0 z d3 hs.2.2.2 z1 z2) hb.2.2.2 hn.2.2.2;have gx:=hx.gd.wf;have gy:=hy.gd.wf;have gz:=hz.gd.wf;have he:j8 (.tri p x y z)=j9 6 (j9 11 (j8 y) (j8 x)) (j9 11 (j8 x) (j8 z)):=rfl;have I3:ndA (.tri p x y z)=1+ndA x+ndA y+ndA z:=rfl;have px:=nd_pos x;refine⟨?_,by rw[he,qj4,qj4,qj4,I3];show 1+1<=_;omega,by rw[he];exact qf8 rfl (qf8 rfl gy gx) (qf8 rfl gx gz)⟩;rw[he,qb9 6 rfl rfl,qb9 11 rfl rfl,qb9 11 rfl rfl,I3];have e6:(qi6 6).length=3:=rfl;have fW:(qi6 11).length=2:=rfl;have LD:(1+ndA x+ndA y+ndA z) * 1<=(1+ndA x+ndA y+ndA z) * (1+ndA x+ndA y+ndA z):=Nat.mul_le_mul_left _ (by omega);omega
theorem qs6{s:ByteArray}{t:Ast}(h:qg4 s=.ok t):GdA t/\ndA t<=200/\ShA t/\vg5 t/\vg4 t/\BqA t:=by
 have jS:=vy6 h
 have U7:∃c,qb3 t=.ok c/\vg5 t/\vg4 t/\BqA t:=by
  unfold qg4 at h
  by_cases hs:s.size<=200
  ·rw[if_pos hs]at h
   cases he:(lvl s 12).E (j4 s st0) with
   | err en pl=>rw[he]at h;cases h
   | ok t1 st=>
    rw[he]at h
    change jh3 t1 st=_ at h
    unfold jh3 at h
    split at h
    ·split at h
     ·rename_i hk
      injection h with h;subst h
      cases hc:qb3 t1 with
      | err q=>rw[hc]at hk;cases hk
      | ok c=>exact⟨c,rfl,((lvl_num s 12).E _ _ _ (qe3 s st0) he).1,((lvl_bnd s hs 12).E _ _ _ (qa4 hs st0) he).1,((lvl_bq s hs 12).E _ _ _ (qa4 hs st0) he).1⟩
     ·cases h
    ·cases h
  ·rw[if_neg hs]at h;cases h
 obtain⟨c,hc,hn,hb,hq⟩:=U7;exact⟨gd_every t jS.1 hb hn hq ⟨c,hc⟩,jS.2,jS.1,hn,hb,hq⟩
theorem not_leaf3(p:CP)(ho:p.op=3):vb3 (.leaf p):=by
 intro B w v hB hL h;have hv:qd8 (.leaf p)=.leaf (qa0 4):=by unfold qd8;rw[ho];rfl
 rw[hv];clear hv;have S:=j3 (qp2 (qa0 4) rfl (show Rng 0 from⟨by decide,by decide⟩) (Nat.zero_le _) (Nat.zero_le _) hB hL);replace S:Hid (Calls prog 115 #[.agg #[.int .i64 4,.pointer none,.pointer none,.int .i64 0,.string ⟨#[]⟩,.string ⟨#[]⟩,.string ⟨#[]⟩]] w λe w'=>∃b,e=.returned (.pointer (some ⟨b,0,none⟩))/\CoAt B w'.heap.size w' (.pointer (some ⟨b,0,none⟩)) (.leaf (qa0 4))/\Below w.heap.size w w'):=S;obtain⟨b,rfl,hc⟩:=h;have c0:=hc.c0;unfold at0;have e3:(p.op==3)=true:=by rw[ho];rfl
 clear hc hL hB ho;go_enter func113,ntmps113
 go_wp2_with(go_at_call 115;refine(q9 S).mono ?_;rintro e w1⟨b1,rfl,F1,A7⟩)
 go_ret;exact⟨b1,rfl,F1,A7⟩
theorem not_leaf4(p:CP)(ho:p.op=4):vb3 (.leaf p):=by
 intro B w v hB hL h;have hv:qd8 (.leaf p)=.leaf (qa0 3):=by unfold qd8;rw[ho];rfl
 rw[hv];clear hv;have S:=j3 (qp2 (qa0 3) rfl (show Rng 0 from⟨by decide,by decide⟩) (Nat.zero_le _) (Nat.zero_le _) hB hL);replace S:Hid (Calls prog 115 #[.agg #[.int .i64 3,.pointer none,.pointer none,.int .i64 0,.string ⟨#[]⟩,.string ⟨#[]⟩,.string ⟨#[]⟩]] w λe w'=>∃b,e=.returned (.pointer (some ⟨b,0,none⟩))/\CoAt B w'.heap.size w' (.pointer (some ⟨b,0,none⟩)) (.leaf (qa0 3))/\Below w.heap.size w w'):=S;obtain⟨b,rfl,hc⟩:=h;have c0:=hc.c0;unfold at0;have e3:(p.op==3)=false:=by rw[ho];rfl
 have e4:(p.op==4)=true:=by rw[ho];rfl
 clear hc hL hB ho;go_enter func113,ntmps113
 go_wp2_with(go_at_call 115;refine(q9 S).mono ?_;rintro e w1⟨b1,rfl,F1,A7⟩)
 go_ret;exact⟨b1,rfl,F1,A7⟩
theorem vw2(c:Co)(p:CP)(hz:(x9 c).length<=1000000000)(hv:qd8 c=.un (qa0 5) c)
  (H6:∀B E w v,CoAt B E w v c->∃b l r,v=at0 b/\CellsC B E w b p l r (x9 c)) (h3:¬p.op=3) (h4:¬p.op=4) (h6:¬p.op=6) (h7:¬p.op=7) (h10:¬p.op=10) (L6:¬p.op=11) (h5:¬p.op=5):vb3 c:=by
 intro B w v hB hL h;rw[hv];obtain⟨b,l,r,rfl,hc⟩:=H6 _ _ _ _ h
 have S:Hid (Calls prog 115 #[.agg #[.int .i64 5,.pointer (some ⟨b,0,none⟩),.pointer none,.int .i64 0,.string ⟨#[]⟩,.string ⟨#[]⟩,.string ⟨#[]⟩]] w λe w'=>∃b,e=.returned (.pointer (some ⟨b,0,none⟩))/\CoAt B w'.heap.size w' (.pointer (some ⟨b,0,none⟩)) (.un (qa0 5) c)/\Below w.heap.size w w'):=
  j3 (va8 (qa0 5) rfl (show Rng 0 from⟨by decide,by decide⟩) (Nat.zero_le _) (Nat.zero_le _) hB hL h hz)
 have c0:=hc.c0;unfold at0;have e3:(p.op==3)=false:=beq_eq_false_iff_ne.2 h3;have e4:(p.op==4)=false:=beq_eq_false_iff_ne.2 h4;have e6:(p.op==6)=false:=beq_eq_false_iff_ne.2 h6;have e7:(p.op==7)=false:=beq_eq_false_iff_ne.2 h7;have iK:(p.op==10)=false:=beq_eq_false_iff_ne.2 h10;have fW:(p.op==11)=false:=beq_eq_false_iff_ne.2 L6;have e5:(p.op==5)=false:=beq_eq_false_iff_ne.2 h5;clear hc hL hB h H6 hv hz h3 h4 h6 h7 h10 L6 h5;go_enter func113,ntmps113
 go_wp2_with(go_at_call 115;refine(q9 S).mono ?_;rintro e w1⟨b1,rfl,F1,A7⟩)
 go_ret;exact⟨b1,rfl,F1,A7⟩
theorem not_un5(p:CP)(x:Co)(ho:p.op=5)(hx0:¬opC x=0):vb3 (.un p x):=by
 intro B w v hB hL h;have hv:qd8 (.un p x)=x:=by unfold qd8;rw[ho,if_pos];rw[Bool.and_eq_true];exact⟨rfl,by simpa using hx0⟩
 rw[hv];obtain⟨b,vx,rfl,hc,hx⟩:=h;obtain⟨bx,px,lx,rx,rfl,H6,cS⟩:=hx.head;have c0:=hc.c0;have c1:=hc.c1;have x0:=cS.c0;rw[H6]at x0;have ex:(opC x != 0)=true:=by simpa using hx0
 unfold at0 at c1 hx ⊢;have HX:=j3 hx;have e3:(p.op==3)=false:=by rw[ho];rfl
 have e4:(p.op==4)=false:=by rw[ho];rfl
 have e6:(p.op==6)=false:=by rw[ho];rfl
 have e7:(p.op==7)=false:=by rw[ho];rfl
 have iK:(p.op==10)=false:=by rw[ho];rfl
 have fW:(p.op==11)=false:=by rw[ho];rfl
 have e5:(p.op==5)=true:=by rw[ho];rfl
 clear hc hL hB ho hx0 hv hx H6 cS;go_enter func113,ntmps113
 go_wp2_with fail
 go_ret;exact⟨bx,rfl,q9 HX,Below.refl _ _⟩
theorem not_un50(p:CP)(x:Co)(ho:p.op=5)(hx0:opC x=0)(hz:(x9 (.un p x)).length<=1000000000):vb3 (.un p x):=by
 intro B w v hB hL h;have hv:qd8 (.un p x)=.un (qa0 5) (.un p x):=by unfold qd8;rw[hx0,if_neg];rw[Bool.and_eq_true];rintro⟨_,h⟩;cases h
 rw[hv];have H:=h;obtain⟨b,vx,rfl,hc,hx⟩:=h
 have S:Hid (Calls prog 115 #[.agg #[.int .i64 5,.pointer (some ⟨b,0,none⟩),.pointer none,.int .i64 0,.string ⟨#[]⟩,.string ⟨#[]⟩,.string ⟨#[]⟩]] w λe w'=>∃b,e=.returned (.pointer (some ⟨b,0,none⟩))/\CoAt B w'.heap.size w' (.pointer (some ⟨b,0,none⟩)) (.un (qa0 5) (.un p x))/\Below w.heap.size w w'):=
  j3 (va8 (qa0 5) rfl (show Rng 0 from⟨by decide,by decide⟩) (Nat.zero_le _) (Nat.zero_le _) hB hL H hz)
 obtain⟨bx,px,lx,rx,rfl,H6,cS⟩:=hx.head;have c0:=hc.c0;have c1:=hc.c1;have x0:=cS.c0;rw[H6,hx0]at x0;unfold at0 at c1 ⊢;have e3:(p.op==3)=false:=by rw[ho];rfl
 have e4:(p.op==4)=false:=by rw[ho];rfl
 have e6:(p.op==6)=false:=by rw[ho];rfl
 have e7:(p.op==7)=false:=by rw[ho];rfl
 have iK:(p.op==10)=false:=by rw[ho];rfl
 have fW:(p.op==11)=false:=by rw[ho];rfl
 have e5:(p.op==5)=true:=by rw[ho];rfl
 clear hc hL hB ho hx0 hv hx H6 cS H hz;go_enter func113,ntmps113
 go_wp2_with(go_at_call 115;refine(q9 S).mono ?_;rintro e w1⟨b1,rfl,F1,A7⟩)
 go_ret;exact⟨b1,rfl,F1,A7⟩
theorem not_bin6(p:CP)(x y:Co)(ho:p.op=6)(hx:vb3 x)(hy:vb3 y)(zx:(x9 (qd8 x)).length<=1000000000)(zy:(x9 (qd8 y)).length<=1000000000):vb3 (.bin p x y):=by
 intro B w v hB hL h;have hv:qd8 (.bin p x y)=j9 7 (qd8 x) (qd8 y):=by rw[qd8,ho];rfl
 rw[hv];obtain⟨b,vx,vy,rfl,hc,cx,cy⟩:=h;obtain⟨bx,rfl⟩:=cx.ptr;obtain⟨by',rfl⟩:=cy.ptr;have c0:=hc.c0;have c1:=hc.c1;have c2:=hc.c2;have K9:=hc.within
 have NX:Hid (∀w1,Below w.heap.size w w1->Calls prog 113 #[.pointer (some ⟨bx,0,none⟩)] w1 λe w'=>∃b,e=.returned (.pointer (some ⟨b,0,none⟩))/\CoAt B w'.heap.size w' (.pointer (some ⟨b,0,none⟩)) (qd8 x)/\Below w1.heap.size w1 w'):=
  j3 (λw1 hb=>hx B w1 _ (Nat.le_trans hB hb.size) (hL.below hb (Nat.le_refl _)) (cx.below hb))
 have NY:Hid (∀w1,Below w.heap.size w w1->Calls prog 113 #[.pointer (some ⟨by',0,none⟩)] w1 λe w'=>∃b,e=.returned (.pointer (some ⟨b,0,none⟩))/\CoAt B w'.heap.size w' (.pointer (some ⟨b,0,none⟩)) (qd8 y)/\Below w1.heap.size w1 w'):=
  j3 (λw1 hb=>hy B w1 _ (Nat.le_trans hB hb.size) (hL.below hb (Nat.le_refl _)) (cy.below hb))
 have PR:Hid (∀w1 v1 v2,Below w.heap.size w w1->CoAt B w1.heap.size w1 v1 (qd8 x)->CoAt B w1.heap.size w1 v2 (qd8 y)->Calls prog 111 #[.int .i64 7,v1,v2] w1 λe w'=>∃b,e=.returned (.pointer (some ⟨b,0,none⟩))/\CoAt B w'.heap.size w' (.pointer (some ⟨b,0,none⟩)) (j9 7 (qd8 x) (qd8 y))/\Below w1.heap.size w1 w'):=
  j3 (λw1 v1 v2 hb h1 h2=>qh6 7 (Nat.le_trans hB hb.size) (hL.below hb (Nat.le_refl _)) h1 h2 zx zy)
 have HB:Hid (Below w.heap.size w w.drew):=j3 (Below.refl _ _).drew;unfold at0 at c1 c2 ⊢;have e3:(p.op==3)=false:=by rw[ho];rfl
 have e4:(p.op==4)=false:=by rw[ho];rfl
 have e6:(p.op==6)=true:=by rw[ho];rfl
 clear hc hL hB ho hv hx hy zx zy cx cy;go_enter func113,ntmps113
 go_wp2_with fail
 go_region_held3 (λW=>W.cell? ⟨b,1,none⟩=some (.pointer (some ⟨bx,0,none⟩))/\W.cell? ⟨b,2,none⟩=some (.pointer (some ⟨by',0,none⟩))) (go_keep) (first|(go_at_call_of 113 (Value.pointer (some { block:=bx,off:=0 }));refine(q9 NX _ (q9 HB)).mono ?_;rintro e w1⟨b1,rfl,k1,A7⟩;have E7:=j3 (j6 (q9 HB) A7);have d1:=((q9 E7).cell (p:=⟨b,1,none⟩) K9).trans c1;have d2:=((q9 E7).cell (p:=⟨b,2,none⟩) K9).trans c2;have K1:=j3 k1;clear k1 A7)|(go_at_call_of 113 (Value.pointer (some { block:=by',off:=0 }));refine(q9 NY _ (q9 E7)).mono ?_;rintro e w2⟨b2,rfl,k2,B9⟩;have J2:=j3 (j6 (q9 E7) B9);have d3:=((q9 J2).cell (p:=⟨b,1,none⟩) K9).trans c1;have d4:=((q9 J2).cell (p:=⟨b,2,none⟩) K9).trans c2;have tX:=j3 ((q9 K1).below B9);have K2:=j3 k2;clear k2 B9)|(go_at_call 111;refine(q9 PR _ _ _ (q9 J2) (q9 tX) (q9 K2)).mono ?_;rintro e w3⟨b3,rfl,k3,E8⟩;have G2:=j3 (j6 (q9 J2) E8);have d5:=((q9 G2).cell (p:=⟨b,1,none⟩) K9).trans c1;have d6:=((q9 G2).cell (p:=⟨b,2,none⟩) K9).trans c2;have K3:=j3 k3;clear k3 E8))
 all_goals(go_wp2_with fail;go_ret;exact⟨b3,rfl,q9 K3,q9 G2⟩)
theorem not_bin7(p:CP)(x y:Co)(ho:p.op=7)(hx:vb3 x)(hy:vb3 y)(zx:(x9 (qd8 x)).length<=1000000000)(zy:(x9 (qd8 y)).length<=1000000000):vb3 (.bin p x y):=by
 intro B w v hB hL h;have hv:qd8 (.bin p x y)=j9 6 (qd8 x) (qd8 y):=by rw[qd8,ho];rfl
 rw[hv];obtain⟨b,vx,vy,rfl,hc,cx,cy⟩:=h;obtain⟨bx,rfl⟩:=cx.ptr;obtain⟨by',rfl⟩:=cy.ptr;have c0:=hc.c0;have c1:=hc.c1;have c2:=hc.c2;have K9:=hc.within
 have NX:Hid (∀w1,Below w.heap.size w w1->Calls prog 113 #[.pointer (some ⟨bx,0,none⟩)] w1 λe w'=>∃b,e=.returned (.pointer (some ⟨b,0,none⟩))/\CoAt B w'.heap.size w' (.pointer (some ⟨b,0,none⟩)) (qd8 x)/\Below w1.heap.size w1 w'):=
  j3 (λw1 hb=>hx B w1 _ (Nat.le_trans hB hb.size) (hL.below hb (Nat.le_refl _)) (cx.below hb))
 have NY:Hid (∀w1,Below w.heap.size w w1->Calls prog 113 #[.pointer (some ⟨by',0,none⟩)] w1 λe w'=>∃b,e=.returned (.pointer (some ⟨b,0,none⟩))/\CoAt B w'.heap.size w' (.pointer (some ⟨b,0,none⟩)) (qd8 y)/\Below w1.heap.size w1 w'):=
  j3 (λw1 hb=>hy B w1 _ (Nat.le_trans hB hb.size) (hL.below hb (Nat.le_refl _)) (cy.below hb))
 have PR:Hid (∀w1 v1 v2,Below w.heap.size w w1->CoAt B w1.heap.size w1 v1 (qd8 x)->CoAt B w1.heap.size w1 v2 (qd8 y)->Calls prog 111 #[.int .i64 6,v1,v2] w1 λe w'=>∃b,e=.returned (.pointer (some ⟨b,0,none⟩))/\CoAt B w'.heap.size w' (.pointer (some ⟨b,0,none⟩)) (j9 6 (qd8 x) (qd8 y))/\Below w1.heap.size w1 w'):=
  j3 (λw1 v1 v2 hb h1 h2=>qh6 6 (Nat.le_trans hB hb.size) (hL.below hb (Nat.le_refl _)) h1 h2 zx zy)
 have HB:Hid (Below w.heap.size w w.drew):=j3 (Below.refl _ _).drew;unfold at0 at c1 c2 ⊢;have e3:(p.op==3)=false:=by rw[ho];rfl
 have e4:(p.op==4)=false:=by rw[ho];rfl
 have e6:(p.op==6)=false:=by rw[ho];rfl
 have e7:(p.op==7)=true:=by rw[ho];rfl
 clear hc hL hB ho hv hx hy zx zy cx cy;go_enter func113,ntmps113
 go_wp2_with fail
 go_region_held3 (λW=>W.cell? ⟨b,1,none⟩=some (.pointer (some ⟨bx,0,none⟩))/\W.cell? ⟨b,2,none⟩=some (.pointer (some ⟨by',0,none⟩))) (go_keep) (first|(go_at_call_of 113 (Value.pointer (some { block:=bx,off:=0 }));refine(q9 NX _ (q9 HB)).mono ?_;rintro e w1⟨b1,rfl,k1,A7⟩;have E7:=j3 (j6 (q9 HB) A7);have d1:=((q9 E7).cell (p:=⟨b,1,none⟩) K9).trans c1;have d2:=((q9 E7).cell (p:=⟨b,2,none⟩) K9).trans c2;have K1:=j3 k1;clear k1 A7)|(go_at_call_of 113 (Value.pointer (some { block:=by',off:=0 }));refine(q9 NY _ (q9 E7)).mono ?_;rintro e w2⟨b2,rfl,k2,B9⟩;have J2:=j3 (j6 (q9 E7) B9);have d3:=((q9 J2).cell (p:=⟨b,1,none⟩) K9).trans c1;have d4:=((q9 J2).cell (p:=⟨b,2,none⟩) K9).trans c2;have tX:=j3 ((q9 K1).below B9);have K2:=j3 k2;clear k2 B9)|(go_at_call 111;refine(q9 PR _ _ _ (q9 J2) (q9 tX) (q9 K2)).mono ?_;rintro e w3⟨b3,rfl,k3,E8⟩;have G2:=j3 (j6 (q9 J2) E8);have d5:=((q9 G2).cell (p:=⟨b,1,none⟩) K9).trans c1;have d6:=((q9 G2).cell (p:=⟨b,2,none⟩) K9).trans c2;have K3:=j3 k3;clear k3 E8))
 all_goals(go_wp2_with fail;go_ret;exact⟨b3,rfl,q9 K3,q9 G2⟩)
theorem not_bin10(p:CP)(x y:Co)(ho:p.op=10)(zx:(x9 x).length<=1000000000)(zy:(x9 y).length<=1000000000):vb3 (.bin p x y):=by
 intro B w v hB hL h;have hv:qd8 (.bin p x y)=j9 11 y x:=by rw[qd8,ho];rfl
 rw[hv];obtain⟨b,vx,vy,rfl,hc,cx,cy⟩:=h;obtain⟨bx,rfl⟩:=cx.ptr;obtain⟨by',rfl⟩:=cy.ptr;have c0:=hc.c0;have c1:=hc.c1;have c2:=hc.c2;have K9:=hc.within
 have PR:Hid (∀w1,Below w.heap.size w w1->Calls prog 111 #[.int .i64 11,.pointer (some ⟨by',0,none⟩),.pointer (some ⟨bx,0,none⟩)] w1 λe w'=>∃b,e=.returned (.pointer (some ⟨b,0,none⟩))/\CoAt B w'.heap.size w' (.pointer (some ⟨b,0,none⟩)) (j9 11 y x)/\Below w1.heap.size w1 w'):=
  j3 (λw1 hb=>qh6 11 (Nat.le_trans hB hb.size) (hL.below hb (Nat.le_refl _)) (cy.below hb) (cx.below hb) zy zx)
 have HB:Hid (Below w.heap.size w w.drew):=j3 (Below.refl _ _).drew;unfold at0 at c1 c2 ⊢;have e3:(p.op==3)=false:=by rw[ho];rfl
 have e4:(p.op==4)=false:=by rw[ho];rfl
 have e6:(p.op==6)=false:=by rw[ho];rfl
 have e7:(p.op==7)=false:=by rw[ho];rfl
 have iK:(p.op==10)=true:=by rw[ho];rfl
 clear hc hL hB ho hv zx zy cx cy;go_enter func113,ntmps113
 go_wp2_with fail
 go_region_held3 (λW=>W.cell? ⟨b,1,none⟩=some (.pointer (some ⟨bx,0,none⟩))/\W.cell? ⟨b,2,none⟩=some (.pointer (some ⟨by',0,none⟩))) (go_keep) (first|(go_at_call 111;refine(q9 PR _ (q9 HB)).mono ?_;rintro e w3⟨b3,rfl,k3,E8⟩;have G2:=j3 (j6 (q9 HB) E8);have d5:=((q9 G2).cell (p:=⟨b,1,none⟩) K9).trans c1;have d6:=((q9 G2).cell (p:=⟨b,2,none⟩) K9).trans c2;have K3:=j3 k3;clear k3 E8))
 all_goals(go_wp2_with fail;go_ret;exact⟨b3,rfl,q9 K3,q9 G2⟩)
theorem not_bin11(p:CP)(x y:Co)(ho:p.op=11)(zx:(x9 x).length<=1000000000)(zy:(x9 y).length<=1000000000):vb3 (.bin p x y):=by
 intro B w v hB hL h;have hv:qd8 (.bin p x y)=j9 10 y x:=by rw[qd8,ho];rfl
 rw[hv];obtain⟨b,vx,vy,rfl,hc,cx,cy⟩:=h;obtain⟨bx,rfl⟩:=cx.ptr;obtain⟨by',rfl⟩:=cy.ptr;have c0:=hc.c0;have c1:=hc.c1;have c2:=hc.c2;have K9:=hc.within
 have PR:Hid (∀w1,Below w.heap.size w w1->Calls prog 111 #[.int .i64 10,.pointer (some ⟨by',0,none⟩),.pointer (some ⟨bx,0,none⟩)] w1 λe w'=>∃b,e=.returned (.pointer (some ⟨b,0,none⟩))/\CoAt B w'.heap.size w' (.pointer (some ⟨b,0,none⟩)) (j9 10 y x)/\Below w1.heap.size w1 w'):=
  j3 (λw1 hb=>qh6 10 (Nat.le_trans hB hb.size) (hL.below hb (Nat.le_refl _)) (cy.below hb) (cx.below hb) zy zx)
 have HB:Hid (Below w.heap.size w w.drew):=j3 (Below.refl _ _).drew;unfold at0 at c1 c2 ⊢;have e3:(p.op==3)=false:=by rw[ho];rfl
 have e4:(p.op==4)=false:=by rw[ho];rfl
 have e6:(p.op==6)=false:=by rw[ho];rfl
 have e7:(p.op==7)=false:=by rw[ho];rfl
 have iK:(p.op==10)=false:=by rw[ho];rfl
 have fW:(p.op==11)=true:=by rw[ho];rfl
 clear hc hL hB ho hv zx zy cx cy;go_enter func113,ntmps113
 go_wp2_with fail
 go_region_held3 (λW=>W.cell? ⟨b,1,none⟩=some (.pointer (some ⟨bx,0,none⟩))/\W.cell? ⟨b,2,none⟩=some (.pointer (some ⟨by',0,none⟩))) (go_keep) (first|(go_at_call 111;refine(q9 PR _ (q9 HB)).mono ?_;rintro e w3⟨b3,rfl,k3,E8⟩;have G2:=j3 (j6 (q9 HB) E8);have d5:=((q9 G2).cell (p:=⟨b,1,none⟩) K9).trans c1;have d6:=((q9 G2).cell (p:=⟨b,2,none⟩) K9).trans c2;have K3:=j3 k3;clear k3 E8))
 all_goals(go_wp2_with fail;go_ret;exact⟨b3,rfl,q9 K3,q9 G2⟩)
theorem jd3:∀c,WfC c->(x9 c).length+7 * uC c<=1000000000->vb3 c:=by
 intro c
 induction c with
 | leaf p=>
  intro hw hz
  by_cases h3:p.op=3
  ·exact not_leaf3 p h3
  by_cases h4:p.op=4
  ·exact not_leaf4 p h4
  have hl:p.op=0\/p.op=1\/p.op=2:=by
   have:qk8 p.op=true:=hw;unfold qk8 at this;simp only[Bool.or_eq_true,beq_iff_eq]at this;omega
  refine vw2 _ p (by omega) ?_ (λB E w v h=>by obtain⟨b,rfl,hc⟩:=h;exact⟨b,_,_,rfl,hc⟩) h3 h4 (by omega) (by omega) (by omega) (by omega) (by omega);unfold qd8;rw[if_neg (by simpa using h3),if_neg (by simpa using h4)]
 | un p x ih=>
  intro hw hz
  have hu:p.op=5\/p.op=22\/p.op=23:=by
   have:unB p.op=true:=hw.1;unfold unB at this;simp only[Bool.or_eq_true,beq_iff_eq]at this;omega
  by_cases h5:p.op=5
  ·by_cases hx0:opC x=0
   ·exact not_un50 p x h5 hx0 (by omega)
   ·exact not_un5 p x h5 hx0
  refine vw2 _ p (by omega) ?_ (λB E w v h=>by obtain⟨b,vx,rfl,hc,_⟩:=h;exact⟨b,_,_,rfl,hc⟩) (by omega) (by omega) (by omega) (by omega) (by omega) (by omega) h5;unfold qd8;rw[if_neg];rw[Bool.and_eq_true];rintro⟨h,_⟩;exact h5 (eq_of_beq h)
 | bin p x y ihx ihy=>
  intro hw hz;have hs:=qj0 hw.1 x y;have lx:=qm2 x hw.2.1;have ly:=qm2 y hw.2.2;have hu:uC (.bin p x y)=if(p.op==6||p.op==7)=true then uC x+uC y else 1:=rfl
  by_cases h6:p.op=6
  ·rw[h6]at hu
   have hu:uC (.bin p x y)=uC x+uC y:=hu;exact not_bin6 p x y h6 (ihx hw.2.1 (by omega)) (ihy hw.2.2 (by omega)) (by omega) (by omega)
  by_cases h7:p.op=7
  ·rw[h7]at hu
   have hu:uC (.bin p x y)=uC x+uC y:=hu;exact not_bin7 p x y h7 (ihx hw.2.1 (by omega)) (ihy hw.2.2 (by omega)) (by omega) (by omega)
  by_cases h10:p.op=10
  ·exact not_bin10 p x y h10 (by omega) (by omega)
  by_cases L6:p.op=11
  ·exact not_bin11 p x y L6 (by omega) (by omega)
  have hb:=hw.1;unfold binB qk8 unB at hb;simp only[Bool.and_eq_true,Bool.not_eq_true',Bool.or_eq_false_iff,beq_eq_false_iff_ne]at hb;obtain⟨⟨⟨⟨⟨_,_⟩,_⟩,h3⟩,h4⟩,⟨h5,_⟩,_⟩:=hb;refine vw2 _ p (by omega) ?_ (λB E w v h=>by obtain⟨b,vx,vy,rfl,hc,_⟩:=h;exact⟨b,_,_,rfl,hc⟩) h3 h4 h6 h7 h10 L6 h5;unfold qd8;rw[if_neg (by simpa using h6),if_neg (by simpa using h7),if_neg (by simpa using h10),if_neg (by simpa using L6)]
def qz0(B:Nat)(w:World)(c:Co)(e:Ending)(w':World):Prop:=∃b,e=.returned (.pointer (some ⟨b,0,none⟩))/\CoAt B w'.heap.size w' (.pointer (some ⟨b,0,none⟩)) c/\Below w.heap.size w w'
theorem vk4(n:Int)(hn:Rng n){B:Nat}{w:World}(hB:B<=w.heap.size)(hL:LibOk w):Calls prog 112 #[.int .i64 n] w (qz0 B w (qz1 n)):=by
 have S:Hid (Calls prog 115 #[.agg #[.int .i64 1,.pointer none,.pointer none,.int .i64 n,.string ⟨#[]⟩,.string ⟨#[]⟩,.string ⟨#[]⟩]] w (qz0 B w (qz1 n))):=j3 (qp2 ⟨1,n,[],[]⟩ rfl hn (Nat.zero_le _) (Nat.zero_le _) hB hL);clear hB hL hn;go_enter func112,ntmps112
 go_wp2_with(go_at_call 115;refine(q9 S).mono ?_;rintro e w1⟨b1,rfl,F1,A7⟩)
 go_ret;exact⟨b1,rfl,F1,A7⟩
def Lm(c:Co):Prop:=(x9 c).length<=200000000/\uC c<=1000/\WfC c
theorem Gd.lm{t:Ast}(h:Gd t)(hn:ndA t<=200):Lm (j8 t):=by
 have h1:=h.len;have h2:=h.un;have:ndA t * ndA t<=200 * 200:=Nat.mul_le_mul hn hn;exact⟨by omega,by omega,h.wf⟩
theorem cjoin_14(lo:Nat)(p:Pay)(sv:Value){B:Nat}{w:World}{b:Nat}(hB:B<=w.heap.size)(hL:LibOk w)(hN:NodeAt lo w b p sv)(ho:p.op=14){x:Co}{vx:Value}(hx:CoAt B w.heap.size w vx x)(zx:Lm x):
  Calls prog 67 #[.pointer (some ⟨b,0,none⟩),vx,.pointer none,.pointer none] w (qz0 B w (j9 16 (qz1 0) x)):=by
 obtain⟨bx,rfl⟩:=hx.ptr;have c0:=hN.c0;have NB:Hid (Calls prog 112 #[.int .i64 0] w (qz0 B w (qz1 0))):=j3 (vk4 0 ⟨by decide,by decide⟩ hB hL)
 have PR:Hid (∀w1 v1,Below w.heap.size w w1->CoAt B w1.heap.size w1 v1 (qz1 0)->Calls prog 111 #[.int .i64 16,v1,.pointer (some ⟨bx,0,none⟩)] w1 (qz0 B w1 (j9 16 (qz1 0) x))):=
  j3 (λw1 v1 hb h1=>qh6 16 (Nat.le_trans hB hb.size) (hL.below hb (Nat.le_refl _)) h1 (hx.below hb) (Nat.le_trans vi6 (by decide)) (Nat.le_trans zx.1 (by decide)))
 have eW:(p.op==14)=true:=by rw[ho];rfl
 clear hN hB hL hx zx ho;go_enter func67,ntmps67
 go_wp2_with(first|(go_at_call 112;refine(q9 NB).mono ?_;rintro e w1⟨b1,rfl,k1,A7⟩;have E7:=j3 A7;have K1:=j3 k1;clear A7 k1)|(go_at_call 111;refine(q9 PR _ _ (q9 E7) (q9 K1)).mono ?_;rintro e w2⟨b2,rfl,k2,B9⟩;have J2:=j3 (j6 (q9 E7) B9);have K2:=j3 k2;clear B9 k2))
 go_ret;exact⟨b2,rfl,q9 K2,q9 J2⟩
theorem cjoin_15(lo:Nat)(p:Pay)(sv:Value){B:Nat}{w:World}{b:Nat}(hB:B<=w.heap.size)(hL:LibOk w)(hN:NodeAt lo w b p sv)(ho:p.op=15){x:Co}{vx:Value}(hx:CoAt B w.heap.size w vx x)(zx:Lm x):
  Calls prog 67 #[.pointer (some ⟨b,0,none⟩),vx,.pointer none,.pointer none] w (qz0 B w (j9 17 (qz1 0) x)):=by
 obtain⟨bx,rfl⟩:=hx.ptr;have c0:=hN.c0;have NB:Hid (Calls prog 112 #[.int .i64 0] w (qz0 B w (qz1 0))):=j3 (vk4 0 ⟨by decide,by decide⟩ hB hL)
 have PR:Hid (∀w1 v1,Below w.heap.size w w1->CoAt B w1.heap.size w1 v1 (qz1 0)->Calls prog 111 #[.int .i64 17,v1,.pointer (some ⟨bx,0,none⟩)] w1 (qz0 B w1 (j9 17 (qz1 0) x))):=
  j3 (λw1 v1 hb h1=>qh6 17 (Nat.le_trans hB hb.size) (hL.below hb (Nat.le_refl _)) h1 (hx.below hb) (Nat.le_trans vi6 (by decide)) (Nat.le_trans zx.1 (by decide)))
 have eW:(p.op==14)=false:=by rw[ho];rfl
 have jK:(p.op==15)=true:=by rw[ho];rfl
 clear hN hB hL hx zx ho;go_enter func67,ntmps67
 go_wp2_with(first|(go_at_call 112;refine(q9 NB).mono ?_;rintro e w1⟨b1,rfl,k1,A7⟩;have E7:=j3 A7;have K1:=j3 k1;clear A7 k1)|(go_at_call 111;refine(q9 PR _ _ (q9 E7) (q9 K1)).mono ?_;rintro e w2⟨b2,rfl,k2,B9⟩;have J2:=j3 (j6 (q9 E7) B9);have K2:=j3 k2;clear B9 k2))
 go_ret;exact⟨b2,rfl,q9 K2,q9 J2⟩
theorem cjoin_12(lo:Nat)(p:Pay)(sv:Value){B:Nat}{w:World}{b:Nat}(hB:B<=w.heap.size)(hL:LibOk w)(hN:NodeAt lo w b p sv)(ho:p.op=12){x y:Co}{vx vy:Value}(hx:CoAt B w.heap.size w vx x)(hy:CoAt B w.heap.size w vy y)(zx:Lm x)(zy:Lm y):
  Calls prog 67 #[.pointer (some ⟨b,0,none⟩),vx,vy,.pointer none] w (qz0 B w (j9 10 y x)):=by
 obtain⟨bx,rfl⟩:=hx.ptr;obtain⟨by',rfl⟩:=hy.ptr;have c0:=hN.c0
 have PR:Hid (Calls prog 111 #[.int .i64 10,.pointer (some ⟨by',0,none⟩),.pointer (some ⟨bx,0,none⟩)] w (qz0 B w (j9 10 y x))):=
  j3 (qh6 10 hB hL hy hx (Nat.le_trans zy.1 (by decide)) (Nat.le_trans zx.1 (by decide)))
 have eW:(p.op==14)=false:=by rw[ho];rfl
 have jK:(p.op==15)=false:=by rw[ho];rfl
 have dM:(p.op==12)=true:=by rw[ho];rfl
 clear hN hB hL hx hy zx zy ho;go_enter func67,ntmps67
 go_wp2_with(go_at_call 111;refine(q9 PR).mono ?_;rintro e w2⟨b2,rfl,k2,B9⟩)
 go_ret;exact⟨b2,rfl,k2,B9⟩
theorem cjoin_13(lo:Nat)(p:Pay)(sv:Value){B:Nat}{w:World}{b:Nat}(hB:B<=w.heap.size)(hL:LibOk w)(hN:NodeAt lo w b p sv)(ho:p.op=13){x y:Co}{vx vy:Value}(hx:CoAt B w.heap.size w vx x)(hy:CoAt B w.heap.size w vy y)(zx:Lm x)(zy:Lm y):
  Calls prog 67 #[.pointer (some ⟨b,0,none⟩),vx,vy,.pointer none] w (qz0 B w (j9 11 y x)):=by
 obtain⟨bx,rfl⟩:=hx.ptr;obtain⟨by',rfl⟩:=hy.ptr;have c0:=hN.c0
 have PR:Hid (Calls prog 111 #[.int .i64 11,.pointer (some ⟨by',0,none⟩),.pointer (some ⟨bx,0,none⟩)] w (qz0 B w (j9 11 y x))):=
  j3 (qh6 11 hB hL hy hx (Nat.le_trans zy.1 (by decide)) (Nat.le_trans zx.1 (by decide)))
 have eW:(p.op==14)=false:=by rw[ho];rfl
 have jK:(p.op==15)=false:=by rw[ho];rfl
 have dM:(p.op==12)=false:=by rw[ho];rfl
 have mH:(p.op==13)=true:=by rw[ho];rfl
 clear hN hB hL hx hy zx zy ho;go_enter func67,ntmps67
 go_wp2_with(go_at_call 111;refine(q9 PR).mono ?_;rintro e w2⟨b2,rfl,k2,B9⟩)
 go_ret;exact⟨b2,rfl,k2,B9⟩
theorem cjoin_9(lo:Nat)(p:Pay)(sv:Value){B:Nat}{w:World}{b:Nat}(hB:B<=w.heap.size)(hL:LibOk w)(hN:NodeAt lo w b p sv)(ho:p.op=9){x y:Co}{vx vy:Value}(hx:CoAt B w.heap.size w vx x)(hy:CoAt B w.heap.size w vy y)(zx:Lm x)(zy:Lm y):
  Calls prog 67 #[.pointer (some ⟨b,0,none⟩),vx,vy,.pointer none] w (qz0 B w (qd8 (j9 8 x y))):=by
 obtain⟨bx,rfl⟩:=hx.ptr;obtain⟨by',rfl⟩:=hy.ptr;have c0:=hN.c0;have z1:=zx.1;have z2:=zy.1
 have PR:Hid (Calls prog 111 #[.int .i64 8,.pointer (some ⟨bx,0,none⟩),.pointer (some ⟨by',0,none⟩)] w (qz0 B w (j9 8 x y))):=
  j3 (qh6 8 hB hL hx hy (Nat.le_trans zx.1 (by decide)) (Nat.le_trans zy.1 (by decide)))
 have NT:Hid (∀w1 v1,Below w.heap.size w w1->CoAt B w1.heap.size w1 v1 (j9 8 x y)->Calls prog 113 #[v1] w1 (qz0 B w1 (qd8 (j9 8 x y)))):=
  j3 (λw1 v1 hb h1=>jd3 _ (qf8 rfl zx.2.2 zy.2.2) (by rw[qb9 8 rfl rfl,qj4];have e8:(qi6 8).length=1:=rfl;show _+7 * 1<=_;omega) B w1 v1 (Nat.le_trans hB hb.size) (hL.below hb (Nat.le_refl _)) h1)
 have eW:(p.op==14)=false:=by rw[ho];rfl
 have jK:(p.op==15)=false:=by rw[ho];rfl
 have dM:(p.op==12)=false:=by rw[ho];rfl
 have mH:(p.op==13)=false:=by rw[ho];rfl
 have e9:(p.op==9)=true:=by rw[ho];rfl
 clear hN hB hL hx hy zx zy ho z1 z2;go_enter func67,ntmps67
 go_wp2_with(first|(go_at_call 111;refine(q9 PR).mono ?_;rintro e w1⟨b1,rfl,k1,A7⟩;have E7:=j3 A7;have K1:=j3 k1;clear A7 k1)|(go_at_call 113;refine(q9 NT _ _ (q9 E7) (q9 K1)).mono ?_;rintro e w2⟨b2,rfl,k2,B9⟩;have J2:=j3 (j6 (q9 E7) B9);have K2:=j3 k2;clear B9 k2))
 go_ret;exact⟨b2,rfl,q9 K2,q9 J2⟩
theorem cjoin_5(lo:Nat)(p:Pay)(sv:Value){B:Nat}{w:World}{b:Nat}(hB:B<=w.heap.size)(hL:LibOk w)(hN:NodeAt lo w b p sv)(ho:p.op=5){x:Co}{vx:Value}(hx:CoAt B w.heap.size w vx x)(zx:Lm x):
  Calls prog 67 #[.pointer (some ⟨b,0,none⟩),vx,.pointer none,.pointer none] w (qz0 B w (qd8 x)):=by
 obtain⟨bx,rfl⟩:=hx.ptr;have c0:=hN.c0;have z1:=zx.1;have z2:=zx.2.1;have NT:Hid (Calls prog 113 #[.pointer (some ⟨bx,0,none⟩)] w (qz0 B w (qd8 x))):=j3 (jd3 x zx.2.2 (by omega) B w _ hB hL hx);have eW:(p.op==14)=false:=by rw[ho];rfl
 have jK:(p.op==15)=false:=by rw[ho];rfl
 have dM:(p.op==12)=false:=by rw[ho];rfl
 have mH:(p.op==13)=false:=by rw[ho];rfl
 have e9:(p.op==9)=false:=by rw[ho];rfl
 have e5:(p.op==5)=true:=by rw[ho];rfl
 clear hN hB hL hx zx ho z1 z2;go_enter func67,ntmps67
 go_wp2_with(go_at_call 113;refine(q9 NT).mono ?_;rintro e w2⟨b2,rfl,k2,B9⟩)
 go_ret;exact⟨b2,rfl,k2,B9⟩
theorem cjoin_20(lo:Nat)(p:Pay)(sv:Value){B:Nat}{w:World}{b:Nat}(hB:B<=w.heap.size)(hL:LibOk w)(hN:NodeAt lo w b p sv)(ho:p.op=20){x y z:Co}{vx vy vz:Value}(hx:CoAt B w.heap.size w vx x)(hy:CoAt B w.heap.size w vy y)(hz:CoAt B w.heap.size w vz z)(zx:Lm x)(zy:Lm y)(zz:Lm z):
  Calls prog 67 #[.pointer (some ⟨b,0,none⟩),vx,vy,vz] w (qz0 B w (j9 6 (j9 11 y x) (j9 11 x z))):=by
 obtain⟨bx,rfl⟩:=hx.ptr;obtain⟨by',rfl⟩:=hy.ptr;obtain⟨bz,rfl⟩:=hz.ptr;have c0:=hN.c0;have z1:=zx.1;have z2:=zy.1;have z3:=zz.1
 have P1:Hid (Calls prog 111 #[.int .i64 11,.pointer (some ⟨by',0,none⟩),.pointer (some ⟨bx,0,none⟩)] w (qz0 B w (j9 11 y x))):=
  j3 (qh6 11 hB hL hy hx (by omega) (by omega))
 have P2:Hid (∀w1,Below w.heap.size w w1->Calls prog 111 #[.int .i64 11,.pointer (some ⟨bx,0,none⟩),.pointer (some ⟨bz,0,none⟩)] w1 (qz0 B w1 (j9 11 x z))):=
  j3 (λw1 hb=>qh6 11 (Nat.le_trans hB hb.size) (hL.below hb (Nat.le_refl _)) (hx.below hb) (hz.below hb) (by omega) (by omega))
 have fW:(qi6 11).length=2:=rfl
 have P3:Hid (∀w1 v1 v2,Below w.heap.size w w1->CoAt B w1.heap.size w1 v1 (j9 11 y x)->CoAt B w1.heap.size w1 v2 (j9 11 x z)->Calls prog 111 #[.int .i64 6,v1,v2] w1 (qz0 B w1 (j9 6 (j9 11 y x) (j9 11 x z)))):=
  j3 (λw1 v1 v2 hb h1 h2=>qh6 6 (Nat.le_trans hB hb.size) (hL.below hb (Nat.le_refl _)) h1 h2 (by rw[qb9 11 rfl rfl];omega) (by rw[qb9 11 rfl rfl];omega))
 have eW:(p.op==14)=false:=by rw[ho];rfl
 have jK:(p.op==15)=false:=by rw[ho];rfl
 have dM:(p.op==12)=false:=by rw[ho];rfl
 have mH:(p.op==13)=false:=by rw[ho];rfl
 have e9:(p.op==9)=false:=by rw[ho];rfl
 have e5:(p.op==5)=false:=by rw[ho];rfl
 have oR:(p.op==20)=true:=by rw[ho];rfl
 clear hN hB hL hx hy hz zx zy zz ho z1 z2 z3 fW;go_enter func67,ntmps67
 go_wp2_with fail
 refine(q9 P1).mono ?_;rintro e w1⟨b1,rfl,k1,A7⟩;have E7:=j3 A7;have K1:=j3 k1;clear A7 k1
 go_wp2_with fail
 refine(q9 P2 _ (q9 E7)).mono ?_;rintro e w2⟨b2,rfl,k2,B9⟩;have J2:=j3 (j6 (q9 E7) B9);have tX:=j3 ((q9 K1).below B9);have K2:=j3 k2;clear B9 k2
 go_wp2_with fail
 refine(q9 P3 _ _ _ (q9 J2) (q9 tX) (q9 K2)).mono ?_;rintro e w3⟨b3,rfl,k3,E8⟩;have G2:=j3 (j6 (q9 J2) E8);have K3:=j3 k3;clear E8 k3
 go_wp2_with fail
 go_ret;exact⟨b3,rfl,q9 K3,q9 G2⟩
theorem cjoin_two(lo:Nat)(p:Pay)(sv:Value){B:Nat}{w:World}{b:Nat}(hB:B<=w.heap.size)(hL:LibOk w)(hN:NodeAt lo w b p sv)(h14:¬p.op=14)(h15:¬p.op=15)(F9:¬p.op=12)(h13:¬p.op=13)(h9:¬p.op=9)(h5:¬p.op=5)(h20:¬p.op=20)(mG:¬p.op=21){x y:Co}{vx vy:Value}(hx:CoAt B w.heap.size w vx x)(hy:CoAt B w.heap.size w vy y)(zx:Lm x)(zy:Lm y):
  Calls prog 67 #[.pointer (some ⟨b,0,none⟩),vx,vy,.pointer none] w (qz0 B w (j9 p.op x y)):=by
 obtain⟨bx,rfl⟩:=hx.ptr;obtain⟨by',rfl⟩:=hy.ptr;have c0:=hN.c0
 have PR:Hid (Calls prog 111 #[.int .i64 p.op,.pointer (some ⟨bx,0,none⟩),.pointer (some ⟨by',0,none⟩)] w (qz0 B w (j9 p.op x y))):=
  j3 (qh6 p.op hB hL hx hy (Nat.le_trans zx.1 (by decide)) (Nat.le_trans zy.1 (by decide)))
 have eW:(p.op==14)=false:=beq_eq_false_iff_ne.2 h14;have jK:(p.op==15)=false:=beq_eq_false_iff_ne.2 h15;have dM:(p.op==12)=false:=beq_eq_false_iff_ne.2 F9;have mH:(p.op==13)=false:=beq_eq_false_iff_ne.2 h13;have e9:(p.op==9)=false:=beq_eq_false_iff_ne.2 h9;have e5:(p.op==5)=false:=beq_eq_false_iff_ne.2 h5;have oR:(p.op==20)=false:=beq_eq_false_iff_ne.2 h20;have wE:(p.op==21)=false:=beq_eq_false_iff_ne.2 mG;clear hN hB hL hx hy zx zy h14 h15 F9 h13 h9 h5 h20 mG;go_enter func67,ntmps67
 go_wp2_with(go_at_call 111;refine(q9 PR).mono ?_;rintro e w2⟨b2,rfl,k2,B9⟩)
 go_ret;exact⟨b2,rfl,k2,B9⟩
theorem vr3(lo:Nat)(p:Pay)(sv:Value){B:Nat}{w:World}{b:Nat}(hN:NodeAt lo w b p sv)(h14:¬p.op=14)(h15:¬p.op=15)(F9:¬p.op=12)(h13:¬p.op=13)(h9:¬p.op=9)(h5:¬p.op=5)(h20:¬p.op=20)(mG:¬p.op=21)(c:Co)(la:Option Addr)
  (hS:∀w1,Below w.heap.size w w1->Calls prog 115 #[.agg #[.int .i64 p.op,.pointer la,.pointer none,.int .i64 p.num,.string (BS p.str),.string (BS p.esc),.string ⟨#[]⟩]] w1 (qz0 B w1 c)) :
  Calls prog 67 #[.pointer (some ⟨b,0,none⟩),.pointer la,.pointer none,.pointer none] w (qz0 B w c):=by
 have c0:=hN.c0;have c3:=hN.c3;have c4:=hN.c4;have c5:=hN.c5;have K9:=hN.within;have S:=j3 hS;have HB:Hid (Below w.heap.size w w.drew):=j3 (Below.refl _ _).drew;have eW:(p.op==14)=false:=beq_eq_false_iff_ne.2 h14;have jK:(p.op==15)=false:=beq_eq_false_iff_ne.2 h15;have dM:(p.op==12)=false:=beq_eq_false_iff_ne.2 F9;have mH:(p.op==13)=false:=beq_eq_false_iff_ne.2 h13;have e9:(p.op==9)=false:=beq_eq_false_iff_ne.2 h9;have e5:(p.op==5)=false:=beq_eq_false_iff_ne.2 h5;have oR:(p.op==20)=false:=beq_eq_false_iff_ne.2 h20;have wE:(p.op==21)=false:=beq_eq_false_iff_ne.2 mG;clear hN hS h14 h15 F9 h13 h9 h5 h20 mG;go_enter func67,ntmps67
 go_wp2_with fail
 go_region_held3 (λW=>W.cell? ⟨b,0,none⟩=some (.int .i64 p.op)/\W.cell? ⟨b,3,none⟩=some (.int .i64 p.num)/\W.cell? ⟨b,4,none⟩=some (.string (BS p.str))/\W.cell? ⟨b,5,none⟩=some (.string (BS p.esc))) (go_keep) (first|(go_at_call 115;refine(q9 S _ (q9 HB)).mono ?_;rintro e w3⟨b3,rfl,k3,E8⟩;have G2:=j3 (j6 (q9 HB) E8);have d0:=((q9 G2).cell (p:=⟨b,0,none⟩) K9).trans c0;have d3:=((q9 G2).cell (p:=⟨b,3,none⟩) K9).trans c3;have d4:=((q9 G2).cell (p:=⟨b,4,none⟩) K9).trans c4;have d5:=((q9 G2).cell (p:=⟨b,5,none⟩) K9).trans c5;have K3:=j3 k3;clear k3 E8))
 all_goals(go_wp2_with fail;go_ret;exact⟨b3,rfl,q9 K3,q9 G2⟩)
end Go.Proofs.YtfkcaldjphakpaaGreatDoor
