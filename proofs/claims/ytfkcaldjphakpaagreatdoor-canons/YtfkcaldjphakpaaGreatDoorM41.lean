/- Contracts of core's quoted, sign, spellEscape. Contracts of spell and spelled. spelled, number, pair. pair. not. How long the texts of a selector's cores are at most. Every core of a selector is short enough. not, operator by operator. number, join. join, whatever the term. -/
import Derived.Test.YtfkcaldjphakpaaGreatDoorM30
import Derived.Test.YtfkcaldjphakpaaGreatDoorM26
import Derived.Test.YtfkcaldjphakpaaGreatDoorM07
import Derived.Test.YtfkcaldjphakpaaGreatDoorM09
import Derived.Test.YtfkcaldjphakpaaGreatDoorM08
import Derived.Deep.RegionWith
import Derived.Deep.QuietTactic
import Derived.BigQuiet
import Derived.Deep.OwnRows
import Derived.Deep.RegionHeld3
import Derived.Test.YtfkcaldjphakpaaGreatDoorShelf
import Derived.Test.YtfkcaldjphakpaaGreatDoorShelf2
import Derived.Lib.ItoaLen
set_option maxHeartbeats 4000000
set_option maxRecDepth 100000
namespace Go.Proofs.YtfkcaldjphakpaaGreatDoor
open Go.RowKit
section
theorem vu6:∀s:List UInt8,Lib.replaceK [39] [39,39] (Lib.count s [39]) s=va6 s:=by
 intro s
 induction s with
 | nil=>rfl
 | cons b l ih=>
  rw [va6]
  by_cases hb:b=39
  ·subst hb
   rw [Lib.count_cons_eq,Nat.add_comm,Lib.replaceK_hit _ _ _ _ 0 (by rfl),if_pos (by rfl)]
   show []++[39,39]++Lib.replaceK [39] [39,39] (Lib.count l [39]) l=_
   rw [ih]
   rfl
  ·rw [Lib.count_cons_ne b 39 l hb,if_neg (by simpa using hb)]
   cases hc:Lib.count l [39] with
   | zero=>
    rw [hc] at ih
    show b::l=b::va6 l
    rw [←ih]
    rfl
   | succ k=>
    obtain ⟨i,hi⟩:=Lib.index_of_count (s:=l) (old:=[39]) (by rw [hc];omega)
    have hi':Lib.index (b::l) [39]=((i+1:Nat):Int):=by
     rw [Lib.index]
     have h1:([39]:List UInt8).isPrefixOf (b::l)=false:=by
      show ((39:UInt8)==b&&true)=false
      rw [Bool.and_true]
      apply beq_eq_false_iff_ne.2
      intro e;exact hb e.symm
     rw [h1,if_neg (by decide),if_neg (by rw [hi];intro e;have:=eq_of_beq e;omega),hi]
     push_cast
     rfl
    rw [hc,Lib.replaceK_hit _ _ _ _ i hi] at ih
    rw [Lib.replaceK_hit _ _ _ _ (i+1) hi',←ih]
    rfl
theorem vi1 (s:List UInt8):Lib.replaceAll s [39] [39,39]=va6 s:=by
 unfold Lib.replaceAll Lib.replace
 rw [if_neg (by decide)]
 unfold Lib.replaceNum
 rw [if_pos (.inl (by decide))]
 exact vu6 s
theorem qj2 (s t:ByteArray) (m n:Nat) (hs:s.size≤m) (ht:t.size≤n) (h:m+n≤9000000000):∃r,r=s++t∧r.size≤m+n∧∀w:World,(Op.stringOp .add s t).run Tryz.prog w=.ok (.string r) w:=
 ⟨s++t,rfl,by rw [ByteArray.size_append];omega,fun w=>run_string_add_sum (P:=Tryz.prog) (w:=w) _ _ (by omega)⟩
theorem qz0 (s:List UInt8):(qL s).length≤2 * s.length+2:=by
 have:=jd9 s
 unfold qL
 simp
 omega
theorem qx2 (s:List UInt8) (hs:s.length≤1000000000) (w:World) (hL:LibOk w) :
  Calls Tryz.prog 210 #[.string (BS s)] w fun e w'=>e=.returned (.string (BS (qL s)))∧Below w.heap.size w w':=by
 obtain ⟨_,m,hm⟩:=hL.max
 have hc:=Lib.countB_le ⟨#[39]⟩ (by decide) _ (BS s) (Nat.le_refl _)
 rw [qc4] at hc
 have hrep:=Tryz.strings_ReplaceAll (BS s) ⟨#[39]⟩ ⟨#[39,39]⟩ m w (by rw [qc4];omega) hm (by decide) (by rw [qc4];show _+_ * 2≤_;omega)
 rw [show Lib.replaceAll (BS s).data.toList (⟨#[39]⟩:ByteArray).data.toList (⟨#[39,39]⟩:ByteArray).data.toList=va6 s from vi1 s] at hrep
 have HREP:Hid (Calls Tryz.prog 255 #[.string (BS s),.string ⟨#[39]⟩,.string ⟨#[39,39]⟩] w fun e w'=>e=.returned (.string (BS (va6 s)))∧Below w.heap.size w w'):=j4 hrep
 have hd:=jd9 s
 obtain ⟨R1,e1,z1,a1⟩:=qj2 ⟨#[39]⟩ (BS (va6 s)) 1 2000000000 (Nat.le_refl _) (by rw [qc4];omega) (by decide)
 obtain ⟨R2,e2,z2,a2⟩:=qj2 R1 ⟨#[39]⟩ 2000000001 1 z1 (Nat.le_refl _) (by decide)
 have HR:Hid (R2=BS (qL s)):=j4 (by
  rw [e2,e1,show (⟨#[39]⟩:ByteArray)=BS [39] from rfl,qk1,qk1]
  rfl)
 clear hrep hm hL hc hs hd e1 z1 e2 z2
 go_enter Tryz.func210,Tryz.ntmps210
 go_wp2_with (go_at_call 255;refine (q9 HREP).mono ?_;rintro e w1 ⟨rfl,hb1⟩)
 go_ret
 exact ⟨by rw [q9 HR];rfl,hb1⟩
theorem qz9 (op:Int):(qj8 op).length≤3:=by
 unfold qj8
 repeat' split
 all_goals decide
theorem csign_any (op:Int) (w:World) :
  Calls Tryz.prog 212 #[.int .i64 op] w fun e w'=>e=.returned (.string (BS (qj8 op)))∧w'=w:=by
 go_enter Tryz.func212,Tryz.ntmps212
 go_wp2_with fail
 all_goals (go_ret;refine ⟨?_,rfl⟩;go_light;simp only [qj8, *,if_true,Bool.false_eq_true,if_false];rfl)
theorem qv4 (op:Int) (w:World) :
  Calls Tryz.prog 164 #[.int .i64 op] w fun e w'=>e=.returned (.bool (qu2 op))∧w'=w:=by
 go_enter Tryz.func164,Tryz.ntmps164
 go_wp2_with fail
 all_goals (go_ret;refine ⟨?_,rfl⟩;go_light;simp only [qu2, *,Bool.or_true,Bool.true_or,Bool.or_false];rfl)
theorem vh7 (b:Nat) (s:List UInt8) (hs:s.length≤1000000000) (w:World) (hL:LibOk w) (hc:w.cell? ⟨b,5,none⟩=some (.string (BS s))) :
  Calls Tryz.prog 211 #[at0 b] w fun e w'=>e=.returned (.string (BS (je2 s)))∧Below w.heap.size w w':=by
 unfold at0 je2
 cases he:s.isEmpty with
 | true=>
  have h1:(BS s).toList.isEmpty=true:=by rw [qe0];exact he
  rw [if_pos rfl]
  clear hL
  go_enter Tryz.func211,Tryz.ntmps211
  go_wp2_with fail
  go_ret
  exact ⟨rfl,Below.refl _ _⟩
 | false=>
  have h1:(BS s).toList.isEmpty=false:=by rw [qe0];exact he
  rw [if_neg (by decide)]
  have HQ:=j4 (qx2 s hs w hL)
  have hq:=qz0 s
  obtain ⟨R1,e1,z1,a1⟩:=qj2 ⟨#[32,69,83,67,65,80,69,32]⟩ (BS (qL s)) 8 2000000002 (Nat.le_refl _) (by rw [qc4];omega) (by decide)
  have HR:Hid (R1=BS ([32,69,83,67,65,80,69,32]++qL s)):=j4 (by rw [e1,show (⟨#[32,69,83,67,65,80,69,32]⟩:ByteArray)=BS [32,69,83,67,65,80,69,32] from rfl,qk1])
  clear hL hs hq e1 z1 he
  go_enter Tryz.func211,Tryz.ntmps211
  go_wp2_with (go_at_call 210;refine (q9 HQ).mono ?_;rintro e w1 ⟨rfl,hb1⟩)
  go_ret
  exact ⟨by rw [q9 HR];rfl,hb1⟩
end
section
theorem escT_len (e:List UInt8):(je2 e).length≤2 * e.length+10:=by
 have:=qz0 e
 unfold je2
 split
 ·simp
 ·simp
  omega
theorem jg2 (w:World) (k:Nat) (os:Array Obj):Below w.heap.size w (Sort.grow (w.drewN k) os):=
 ⟨rfl,rfl,rfl,by first|(simp [Sort.grow];done)|(simp [Sort.grow];omega),fun i hi=>by
  show ((w.drewN k).heap++os)[i]?=_
  rw [Array.getElem?_append_left (by show i<w.heap.size;omega)]
  rfl⟩
structure SpA (w:World) (b:Nat) (p:CP) (l r:Value):Prop where
 lib:LibOk w
 lt:b<w.heap.size
 c0:w.cell? ⟨b,0,none⟩=some (.int .i64 p.op)
 c1:w.cell? ⟨b,1,none⟩=some l
 c2:w.cell? ⟨b,2,none⟩=some r
 c3:w.cell? ⟨b,3,none⟩=some (.int .i64 p.num)
 c4:w.cell? ⟨b,4,none⟩=some (.string (BS p.str))
 c5:w.cell? ⟨b,5,none⟩=some (.string (BS p.esc))
 rng:Rng p.num
 s4:p.str.length≤1000000000
 s5:p.esc.length≤1000000000
theorem spell_0 (w:World) (b:Nat) (p:CP) (l r:Value) (h:SpA w b p l r) (lt rt:List UInt8) (ho:p.op=0) :
  Calls Tryz.prog 168 #[at0 b] w fun e w'=>e=.returned (.string (BS (qc7 p lt rt)))∧Below w.heap.size w w':=by
 have e0:(p.op==0)=true:=by rw [ho];rfl
 have c0:=h.c0
 have hv:qc7 p lt rt=p.str:=by
  unfold qc7
  rw [e0]
  rfl
 rw [hv]
 clear hv
 unfold at0
 have c4:=h.c4
 clear h ho
 go_enter Tryz.func168,Tryz.ntmps168
 go_wp2_with fail
 go_ret
 exact ⟨rfl,Below.refl _ _⟩
theorem spell_1 (w:World) (b:Nat) (p:CP) (l r:Value) (h:SpA w b p l r) (lt rt:List UInt8) (ho:p.op=1) :
  Calls Tryz.prog 168 #[at0 b] w fun e w'=>e=.returned (.string (BS (qc7 p lt rt)))∧Below w.heap.size w w':=by
 have e0:(p.op==0)=false:=by rw [ho];rfl
 have e1:(p.op==1)=true:=by rw [ho];rfl
 have c0:=h.c0
 have hv:qc7 p lt rt=Lib.itoa p.num:=by
  unfold qc7
  rw [e0,e1]
  rfl
 rw [hv]
 clear hv
 unfold at0
 have c3:=h.c3
 have HF:=j4 (Tryz.strconv_FormatInt_10 p.num h.rng.1 h.rng.2 w h.lib.pow)
 clear h ho
 go_enter Tryz.func168,Tryz.ntmps168
 go_wp2_with (go_at_call 209;refine (q9 HF).mono ?_;rintro e w1 ⟨rfl,k,os,rfl⟩)
 go_ret
 exact ⟨rfl,jg2 w k os⟩
theorem spell_2 (w:World) (b:Nat) (p:CP) (l r:Value) (h:SpA w b p l r) (lt rt:List UInt8) (ho:p.op=2) :
  Calls Tryz.prog 168 #[at0 b] w fun e w'=>e=.returned (.string (BS (qc7 p lt rt)))∧Below w.heap.size w w':=by
 have e0:(p.op==0)=false:=by rw [ho];rfl
 have e1:(p.op==1)=false:=by rw [ho];rfl
 have e2:(p.op==2)=true:=by rw [ho];rfl
 have c0:=h.c0
 have hv:qc7 p lt rt=qL p.str:=by
  unfold qc7
  rw [e0,e1,e2]
  rfl
 rw [hv]
 clear hv
 unfold at0
 have c4:=h.c4
 have HF:=j4 (qx2 p.str h.s4 w h.lib)
 clear h ho
 go_enter Tryz.func168,Tryz.ntmps168
 go_wp2_with (go_at_call 210;refine (q9 HF).mono ?_;rintro e w1 ⟨rfl,hb1⟩)
 go_ret
 exact ⟨rfl,hb1⟩
theorem spell_3 (w:World) (b:Nat) (p:CP) (l r:Value) (h:SpA w b p l r) (lt rt:List UInt8) (ho:p.op=3) :
  Calls Tryz.prog 168 #[at0 b] w fun e w'=>e=.returned (.string (BS (qc7 p lt rt)))∧Below w.heap.size w w':=by
 have e0:(p.op==0)=false:=by rw [ho];rfl
 have e1:(p.op==1)=false:=by rw [ho];rfl
 have e2:(p.op==2)=false:=by rw [ho];rfl
 have e3:(p.op==3)=true:=by rw [ho];rfl
 have c0:=h.c0
 have hv:qc7 p lt rt=[84,82,85,69]:=by
  unfold qc7
  rw [e0,e1,e2,e3]
  rfl
 rw [hv]
 clear hv
 unfold at0
 clear h ho
 go_enter Tryz.func168,Tryz.ntmps168
 go_wp2_with fail
 go_ret
 exact ⟨rfl,Below.refl _ _⟩
theorem spell_4 (w:World) (b:Nat) (p:CP) (l r:Value) (h:SpA w b p l r) (lt rt:List UInt8) (ho:p.op=4) :
  Calls Tryz.prog 168 #[at0 b] w fun e w'=>e=.returned (.string (BS (qc7 p lt rt)))∧Below w.heap.size w w':=by
 have e0:(p.op==0)=false:=by rw [ho];rfl
 have e1:(p.op==1)=false:=by rw [ho];rfl
 have e2:(p.op==2)=false:=by rw [ho];rfl
 have e3:(p.op==3)=false:=by rw [ho];rfl
 have e4:(p.op==4)=true:=by rw [ho];rfl
 have c0:=h.c0
 have hv:qc7 p lt rt=[70,65,76,83,69]:=by
  unfold qc7
  rw [e0,e1,e2,e3,e4]
  rfl
 rw [hv]
 clear hv
 unfold at0
 clear h ho
 go_enter Tryz.func168,Tryz.ntmps168
 go_wp2_with fail
 go_ret
 exact ⟨rfl,Below.refl _ _⟩
theorem spell_5 (w:World) (b:Nat) (p:CP) (l r:Value) (h:SpA w b p l r) (lt rt:List UInt8) (hl:TextAt w l lt) (zl:lt.length≤1000000000) (ho:p.op=5) :
  Calls Tryz.prog 168 #[at0 b] w fun e w'=>e=.returned (.string (BS (qc7 p lt rt)))∧Below w.heap.size w w':=by
 have e0:(p.op==0)=false:=by rw [ho];rfl
 have e1:(p.op==1)=false:=by rw [ho];rfl
 have e2:(p.op==2)=false:=by rw [ho];rfl
 have e3:(p.op==3)=false:=by rw [ho];rfl
 have e4:(p.op==4)=false:=by rw [ho];rfl
 have e5:(p.op==5)=true:=by rw [ho];rfl
 have c0:=h.c0
 have hv:qc7 p lt rt=[40,78,79,84,32]++lt++[41]:=by
  unfold qc7
  rw [e0,e1,e2,e3,e4,e5]
  rfl
 rw [hv]
 clear hv
 unfold at0
 obtain ⟨lb,rfl,hlb,lc⟩:=hl
 unfold at0 at h
 have c1:=h.c1
 obtain ⟨R1,e101,z1,a1⟩:=qj2 ⟨#[40,78,79,84,32]⟩ (BS lt) 5 1000000000 (Nat.le_refl _) (by rw [qc4];omega) (by decide)
 obtain ⟨R2,e102,z2,a2⟩:=qj2 R1 ⟨#[41]⟩ 1000000005 1 z1 (Nat.le_refl _) (by decide)
 have HR:Hid (R2=BS ([40,78,79,84,32]++lt++[41])):=j4 (by
  rw [e102,e101,show (⟨#[40,78,79,84,32]⟩:ByteArray)=BS [40,78,79,84,32] from rfl,show (⟨#[41]⟩:ByteArray)=BS [41] from rfl,qk1,qk1])
 clear e101 z1 e102 z2
 clear h ho
 go_enter Tryz.func168,Tryz.ntmps168
 go_wp2_with fail
 go_ret
 exact ⟨by rw [q9 HR];rfl,Below.refl _ _⟩
theorem spell_23 (w:World) (b:Nat) (p:CP) (l r:Value) (h:SpA w b p l r) (lt rt:List UInt8) (hl:TextAt w l lt) (zl:lt.length≤1000000000) (ho:p.op=23) :
  Calls Tryz.prog 168 #[at0 b] w fun e w'=>e=.returned (.string (BS (qc7 p lt rt)))∧Below w.heap.size w w':=by
 have e0:(p.op==0)=false:=by rw [ho];rfl
 have e1:(p.op==1)=false:=by rw [ho];rfl
 have e2:(p.op==2)=false:=by rw [ho];rfl
 have e3:(p.op==3)=false:=by rw [ho];rfl
 have e4:(p.op==4)=false:=by rw [ho];rfl
 have e5:(p.op==5)=false:=by rw [ho];rfl
 have e23:(p.op==23)=true:=by rw [ho];rfl
 have c0:=h.c0
 have hv:qc7 p lt rt=[40]++lt++[32,73,83,32,78,85,76,76,41]:=by
  unfold qc7
  rw [e0,e1,e2,e3,e4,e5,e23]
  rfl
 rw [hv]
 clear hv
 unfold at0
 obtain ⟨lb,rfl,hlb,lc⟩:=hl
 unfold at0 at h
 have c1:=h.c1
 obtain ⟨R1,e101,z1,a1⟩:=qj2 ⟨#[40]⟩ (BS lt) 1 1000000000 (Nat.le_refl _) (by rw [qc4];omega) (by decide)
 obtain ⟨R2,e102,z2,a2⟩:=qj2 R1 ⟨#[32,73,83,32,78,85,76,76,41]⟩ 1000000001 9 z1 (Nat.le_refl _) (by decide)
 have HR:Hid (R2=BS ([40]++lt++[32,73,83,32,78,85,76,76,41])):=j4 (by
  rw [e102,e101,show (⟨#[40]⟩:ByteArray)=BS [40] from rfl,show (⟨#[32,73,83,32,78,85,76,76,41]⟩:ByteArray)=BS [32,73,83,32,78,85,76,76,41] from rfl,qk1,qk1])
 clear e101 z1 e102 z2
 clear h ho
 go_enter Tryz.func168,Tryz.ntmps168
 go_wp2_with fail
 go_ret
 exact ⟨by rw [q9 HR];rfl,Below.refl _ _⟩
theorem spell_22 (w:World) (b:Nat) (p:CP) (l r:Value) (h:SpA w b p l r) (lt rt:List UInt8) (hl:TextAt w l lt) (zl:lt.length≤1000000000) (ho:p.op=22) :
  Calls Tryz.prog 168 #[at0 b] w fun e w'=>e=.returned (.string (BS (qc7 p lt rt)))∧Below w.heap.size w w':=by
 have e0:(p.op==0)=false:=by rw [ho];rfl
 have e1:(p.op==1)=false:=by rw [ho];rfl
 have e2:(p.op==2)=false:=by rw [ho];rfl
 have e3:(p.op==3)=false:=by rw [ho];rfl
 have e4:(p.op==4)=false:=by rw [ho];rfl
 have e5:(p.op==5)=false:=by rw [ho];rfl
 have e23:(p.op==23)=false:=by rw [ho];rfl
 have e22:(p.op==22)=true:=by rw [ho];rfl
 have c0:=h.c0
 have hv:qc7 p lt rt=[40]++lt++[32,76,73,75,69,32]++qL p.str++je2 p.esc++[41]:=by
  unfold qc7
  rw [e0,e1,e2,e3,e4,e5,e23,e22]
  rfl
 rw [hv]
 clear hv
 unfold at0
 obtain ⟨lb,rfl,hlb,lc⟩:=hl
 unfold at0 at h
 have c1:=h.c1
 have c4:=h.c4
 have c5:=h.c5
 have hblt:=h.lt
 have hq:=qz0 p.str
 have s4:=h.s4
 have s5:=h.s5
 have hqe:=escT_len p.esc
 obtain ⟨R1,e101,z1,a1⟩:=qj2 ⟨#[40]⟩ (BS lt) 1 1000000000 (Nat.le_refl _) (by rw [qc4];omega) (by decide)
 obtain ⟨R2,e102,z2,a2⟩:=qj2 R1 ⟨#[32,76,73,75,69,32]⟩ 1000000001 6 z1 (Nat.le_refl _) (by decide)
 obtain ⟨R3,e103,z3,a3⟩:=qj2 R2 (BS (qL p.str)) 1000000007 2000000002 z2 (by rw [qc4];omega) (by decide)
 obtain ⟨R4,e104,z4,a4⟩:=qj2 R3 (BS (je2 p.esc)) 3000000009 2000000010 z3 (by rw [qc4];omega) (by decide)
 obtain ⟨R5,e105,z5,a5⟩:=qj2 R4 ⟨#[41]⟩ 5000000019 1 z4 (Nat.le_refl _) (by decide)
 have HR:Hid (R5=BS ([40]++lt++[32,76,73,75,69,32]++qL p.str++je2 p.esc++[41])):=j4 (by
  rw [e105,e104,e103,e102,e101,show (⟨#[40]⟩:ByteArray)=BS [40] from rfl,show (⟨#[32,76,73,75,69,32]⟩:ByteArray)=BS [32,76,73,75,69,32] from rfl,show (⟨#[41]⟩:ByteArray)=BS [41] from rfl,qk1,qk1,qk1,qk1,qk1])
 clear e101 z1 e102 z2 e103 z3 e104 z4 e105 z5
 have HQ:Hid (∀w1,Below w.heap.size w w1→Calls Tryz.prog 210 #[.string (BS p.str)] w1 fun e w'=>e=.returned (.string (BS (qL p.str)))∧Below w1.heap.size w1 w'):=j4 (fun w1 hb=>qx2 p.str s4 w1 (h.lib.below hb (Nat.le_refl _)))
 have HS:Hid (∀w1,Below w.heap.size w w1→Calls Tryz.prog 211 #[.pointer (some ⟨b,0,none⟩)] w1 fun e w'=>e=.returned (.string (BS (je2 p.esc)))∧Below w1.heap.size w1 w'):=j4 (fun w1 hb=>vh7 b p.esc s5 w1 (h.lib.below hb (Nat.le_refl _)) ((hb.cell (p:=⟨b,5,none⟩) hblt).trans c5))
 have HB:Hid (Below w.heap.size w w.drew):=j4 (Below.refl _ _).drew
 clear h ho hq s4 s5 hqe c5
 go_enter Tryz.func168,Tryz.ntmps168
 go_wp2_with fail
 go_region_held3 (fun W=>W.cell? ⟨b,1,none⟩=some (.pointer (some ⟨lb,0,none⟩))∧W.cell? ⟨lb,6,none⟩=some (.string (BS lt))∧W.cell? ⟨b,4,none⟩=some (.string (BS p.str))) (go_keep) (first|(go_at_call 210;refine (q9 HQ _ (q9 HB)).mono ?_;rintro e w1 ⟨rfl,hb1⟩;replace HB:=j4 (j6 (q9 HB) hb1);obtain ⟨hc1,hf1⟩:=qa9 (q9 HB);have d1:=(hc1 b 1 hblt).trans c1;have d2:=(hc1 lb 6 hlb).trans lc;have d3:=(hc1 b 4 hblt).trans c4;clear hc1 hf1 hb1)|(go_at_call 211;refine (q9 HS _ (q9 HB)).mono ?_;rintro e w1 ⟨rfl,hb1⟩;replace HB:=j4 (j6 (q9 HB) hb1);obtain ⟨hc1,hf1⟩:=qa9 (q9 HB);have d1:=(hc1 b 1 hblt).trans c1;have d2:=(hc1 lb 6 hlb).trans lc;have d3:=(hc1 b 4 hblt).trans c4;clear hc1 hf1 hb1))
 all_goals (go_wp2_with fail;go_ret;exact ⟨by rw [q9 HR];rfl,q9 HB⟩)
theorem spell_bin (w:World) (b:Nat) (p:CP) (l r:Value) (h:SpA w b p l r) (lt rt:List UInt8) (hl:TextAt w l lt) (zl:lt.length≤1000000000) (hr:TextAt w r rt) (zr:rt.length≤1000000000) (h0:¬p.op=0) (h1:¬p.op=1) (h2:¬p.op=2) (h3:¬p.op=3) (h4:¬p.op=4) (h5:¬p.op=5) (h23:¬p.op=23) (h22:¬p.op=22) :
  Calls Tryz.prog 168 #[at0 b] w fun e w'=>e=.returned (.string (BS (qc7 p lt rt)))∧Below w.heap.size w w':=by
 have e0:(p.op==0)=false:=beq_eq_false_iff_ne.2 h0
 have e1:(p.op==1)=false:=beq_eq_false_iff_ne.2 h1
 have e2:(p.op==2)=false:=beq_eq_false_iff_ne.2 h2
 have e3:(p.op==3)=false:=beq_eq_false_iff_ne.2 h3
 have e4:(p.op==4)=false:=beq_eq_false_iff_ne.2 h4
 have e5:(p.op==5)=false:=beq_eq_false_iff_ne.2 h5
 have e23:(p.op==23)=false:=beq_eq_false_iff_ne.2 h23
 have e22:(p.op==22)=false:=beq_eq_false_iff_ne.2 h22
 have c0:=h.c0
 have hv:qc7 p lt rt=[40]++lt++[32]++qj8 p.op++[32]++rt++[41]:=by
  unfold qc7
  rw [e0,e1,e2,e3,e4,e5,e23,e22]
  rfl
 rw [hv]
 clear hv
 unfold at0
 obtain ⟨lb,rfl,hlb,lc⟩:=hl
 obtain ⟨rb,rfl,hrb,rc⟩:=hr
 unfold at0 at h
 have c1:=h.c1
 have c2:=h.c2
 have hsg:=qz9 p.op
 obtain ⟨R1,e101,z1,a1⟩:=qj2 ⟨#[40]⟩ (BS lt) 1 1000000000 (Nat.le_refl _) (by rw [qc4];omega) (by decide)
 obtain ⟨R2,e102,z2,a2⟩:=qj2 R1 ⟨#[32]⟩ 1000000001 1 z1 (Nat.le_refl _) (by decide)
 obtain ⟨R3,e103,z3,a3⟩:=qj2 R2 (BS (qj8 p.op)) 1000000002 1000 z2 (by rw [qc4];omega) (by decide)
 obtain ⟨R4,e104,z4,a4⟩:=qj2 R3 ⟨#[32]⟩ 1000001002 1 z3 (Nat.le_refl _) (by decide)
 obtain ⟨R5,e105,z5,a5⟩:=qj2 R4 (BS rt) 1000001003 1000000000 z4 (by rw [qc4];omega) (by decide)
 obtain ⟨R6,e106,z6,a6⟩:=qj2 R5 ⟨#[41]⟩ 2000001003 1 z5 (Nat.le_refl _) (by decide)
 have HR:Hid (R6=BS ([40]++lt++[32]++qj8 p.op++[32]++rt++[41])):=j4 (by
  rw [e106,e105,e104,e103,e102,e101,show (⟨#[40]⟩:ByteArray)=BS [40] from rfl,show (⟨#[32]⟩:ByteArray)=BS [32] from rfl,show (⟨#[41]⟩:ByteArray)=BS [41] from rfl,qk1,qk1,qk1,qk1,qk1,qk1])
 clear e101 z1 e102 z2 e103 z3 e104 z4 e105 z5 e106 z6
 clear h hsg zl zr h0 h1 h2 h3 h4 h5 h23 h22
 go_enter Tryz.func168,Tryz.ntmps168
 go_wp2_with fail
 go_region_held3 (fun W=>W.cell? ⟨b,0,none⟩=some (.int .i64 p.op)∧W.cell? ⟨b,1,none⟩=some (.pointer (some ⟨lb,0,none⟩))∧W.cell? ⟨lb,6,none⟩=some (.string (BS lt))∧W.cell? ⟨b,2,none⟩=some (.pointer (some ⟨rb,0,none⟩))∧W.cell? ⟨rb,6,none⟩=some (.string (BS rt))) (go_keep) (first|(go_at_call 212;refine (csign_any _ _).mono ?_;rintro e w1 ⟨rfl,hw1⟩;subst w1))
 all_goals (go_wp2_with fail;go_ret;exact ⟨by rw [q9 HR];rfl,(Below.refl _ _).drew⟩)
end
section
def unB (op:Int):Bool:=op==5||op==22||op==23
def qm4 (op:Int):Bool:=op==0||op==1||op==2||op==3||op==4
theorem spell_any (w:World) (b:Nat) (p:CP) (l r:Value) (h:SpA w b p l r) (lt rt:List UInt8) (zl:lt.length≤1000000000) (zr:rt.length≤1000000000)
  (hl:qm4 p.op=false→TextAt w l lt) (hr:qm4 p.op=false→unB p.op=false→TextAt w r rt) :
  Calls Tryz.prog 168 #[at0 b] w fun e w'=>e=.returned (.string (BS (qc7 p lt rt)))∧Below w.heap.size w w':=by
 by_cases h0:p.op=0
 ·exact spell_0 w b p l r h lt rt h0
 by_cases h1:p.op=1
 ·exact spell_1 w b p l r h lt rt h1
 by_cases h2:p.op=2
 ·exact spell_2 w b p l r h lt rt h2
 by_cases h3:p.op=3
 ·exact spell_3 w b p l r h lt rt h3
 by_cases h4:p.op=4
 ·exact spell_4 w b p l r h lt rt h4
 have hL:=hl (by unfold qm4;simp [h0,h1,h2,h3,h4])
 by_cases h5:p.op=5
 ·exact spell_5 w b p l r h lt rt hL zl h5
 by_cases h23:p.op=23
 ·exact spell_23 w b p l r h lt rt hL zl h23
 by_cases h22:p.op=22
 ·exact spell_22 w b p l r h lt rt hL zl h22
 exact spell_bin w b p l r h lt rt hL zl (hr (by unfold qm4;simp [h0,h1,h2,h3,h4]) (by unfold unB;simp [h5,h22,h23])) zr h0 h1 h2 h3 h4 h5 h23 h22
def coV (p:CP) (l r:Value):Value:=.agg #[.int .i64 p.op,l,r,.int .i64 p.num,.string (BS p.str),.string (BS p.esc),.string ⟨#[]⟩]
theorem TextAt.below {w w':World} {v:Value} {t:List UInt8} (h:TextAt w v t) (hb:Below w.heap.size w w'):TextAt w' v t:=by
 obtain ⟨b,rfl,h1,h2⟩:=h
 exact ⟨b,rfl,Nat.lt_of_lt_of_le h1 hb.size,(hb.cell (p:=⟨b,6,none⟩) h1).trans h2⟩
theorem qx8 (w:World) (hL:LibOk w) (p:CP) (l r:Value) (lt rt:List UInt8) (hn:Rng p.num) (h4:p.str.length≤1000000000) (h5:p.esc.length≤1000000000) (zl:lt.length≤1000000000) (zr:rt.length≤1000000000)
  (hlp:∃a,l=.pointer a) (hrp:∃a,r=.pointer a)
  (hl:qm4 p.op=false→TextAt w l lt) (hr:qm4 p.op=false→unB p.op=false→TextAt w r rt) :
  Calls Tryz.prog 115 #[coV p l r] w fun e w'=>e=.returned (at0 w.heap.size)∧CellsC w.heap.size w'.heap.size w' w.heap.size p l r (qc7 p lt rt)∧Below w.heap.size w w':=by
 have hbl:Below w.heap.size w (w.alloc (.cells #[.int .i64 p.op,l,r,.int .i64 p.num,.string (BS p.str),.string (BS p.esc),.string ⟨#[]⟩] 75)):=(Below.refl _ _).alloc (Nat.le_refl _) _
 have HS:=j4 (spell_any (w.alloc (.cells #[.int .i64 p.op,l,r,.int .i64 p.num,.string (BS p.str),.string (BS p.esc),.string ⟨#[]⟩] 75)) w.heap.size p l r
  ⟨hL.alloc _,by simp,by simp,by simp,by simp,by simp,by simp,by simp,hn,h4,h5⟩ lt rt zl zr (fun h=>(hl h).below hbl) (fun h h'=>(hr h h').below hbl))
 obtain ⟨la,rfl⟩:=hlp
 obtain ⟨ra,rfl⟩:=hrp
 generalize ht:qc7 p lt rt=t
 rw [ht] at HS
 unfold at0 at HS
 clear hL hn h4 h5 zl zr hl hr ht
 unfold at0 coV
 go_enter Tryz.func115,Tryz.ntmps115
 go_wp2_with (go_at_call 168;refine (q9 HS).mono ?_;rintro e w1 ⟨rfl,hb1⟩;have hz1:w.heap.size<w1.heap.size:=(by have:=hb1.size;simp at this;omega);have g0:w1.cell? ⟨w.heap.size,0,none⟩=some (.int .i64 p.op):=((qa9 hb1).1 _ 0 (by simp)).trans (by simp);have g1:w1.cell? ⟨w.heap.size,1,none⟩=some (.pointer la):=((qa9 hb1).1 _ 1 (by simp)).trans (by simp);have g2:w1.cell? ⟨w.heap.size,2,none⟩=some (.pointer ra):=((qa9 hb1).1 _ 2 (by simp)).trans (by simp);have g3:w1.cell? ⟨w.heap.size,3,none⟩=some (.int .i64 p.num):=((qa9 hb1).1 _ 3 (by simp)).trans (by simp);have g4:w1.cell? ⟨w.heap.size,4,none⟩=some (.string (BS p.str)):=((qa9 hb1).1 _ 4 (by simp)).trans (by simp);have g5:w1.cell? ⟨w.heap.size,5,none⟩=some (.string (BS p.esc)):=((qa9 hb1).1 _ 5 (by simp)).trans (by simp);have g6:w1.cell? ⟨w.heap.size,6,none⟩=some (.string ⟨#[]⟩):=((qa9 hb1).1 _ 6 (by simp)).trans (by simp);have z0:∀j,w1.frozen? ⟨w.heap.size,j,none⟩=false:=(fun j=>((qa9 hb1).2 _ j (by simp)).trans (by simp));have hB1:=j4 (j6 hbl hb1);clear hb1)
 go_ret
 refine ⟨rfl,⟨Nat.le_refl _,by simpa using hz1,by simpa using hz1,by simp [go_sem,g0],by simp [go_sem,g1],by simp [go_sem,g2],by simp [go_sem,g3],by simp [go_sem,g4],by simp [go_sem,g5],by simp [go_sem,g6]⟩, ?_⟩
 exact (q9 hB1).setCell (by simp) _
end
section
theorem LibOk.drew {w:World} (h:LibOk w):LibOk w.drew:=h.below (Below.refl _ _).drew (Nat.le_refl _)
theorem vk3 {op:Int} (h1:qm4 op=false) (h2:unB op=false) (l r:List UInt8):qc7 (qb0 op) l r=[40]++l++[32]++qj8 op++[32]++r++[41]:=by
 unfold qm4 at h1
 unfold unB at h2
 simp only [Bool.or_eq_false_iff] at h1 h2
 obtain ⟨⟨⟨⟨a,b⟩,c⟩,d⟩,e⟩:=h1
 obtain ⟨⟨f,g⟩,i⟩:=h2
 simp only [qc7,qb0,a,b,c,d,e,f,g,i]
 rfl
theorem CoAt.two {B:Nat} {w0 w':World} {op:Int} {x y:Co} {vx vy:Value} (hB:B≤w0.heap.size) (hc:CellsC w0.heap.size w'.heap.size w' w0.heap.size (qb0 op) vx vy (qc7 (qb0 op) (j9 x) (j9 y))) (hb:Below w0.heap.size w0 w') (hx:CoAt B w0.heap.size w0 vx x) (hy:CoAt B w0.heap.size w0 vy y) :
  CoAt B w'.heap.size w' (at0 w0.heap.size) (.bin (qb0 op) x y):=
 ⟨w0.heap.size,vx,vy,rfl,⟨hB,hc.hi,hc.within,hc.c0,hc.c1,hc.c2,hc.c3,hc.c4,hc.c5,hc.c6⟩,hx.below hb,hy.below hb⟩
theorem CoAt.ptr {B E:Nat} {w:World} {v:Value} {c:Co} (h:CoAt B E w v c):∃b,v=.pointer (some ⟨b,0,none⟩):=by
 obtain ⟨b,_,_,_,rfl,_⟩:=h.head
 exact ⟨b,rfl⟩
theorem vh8 (op:Int) {B:Nat} {w:World} (hB:B≤w.heap.size) (hL:LibOk w) {x y:Co} {bx by':Nat} (hx:CoAt B w.heap.size w (.pointer (some ⟨bx,0,none⟩)) x) (hy:CoAt B w.heap.size w (.pointer (some ⟨by',0,none⟩)) y) (zx:(j9 x).length≤1000000000) (zy:(j9 y).length≤1000000000) :
  Calls Tryz.prog 115 #[.agg #[.int .i64 op,.pointer (some ⟨bx,0,none⟩),.pointer (some ⟨by',0,none⟩),.int .i64 0,.string ⟨#[]⟩,.string ⟨#[]⟩,.string ⟨#[]⟩]] w fun e w'=>∃b,e=.returned (.pointer (some ⟨b,0,none⟩))∧CoAt B w'.heap.size w' (.pointer (some ⟨b,0,none⟩)) (.bin (qb0 op) x y)∧Below w.heap.size w w':=by
 have h:=qx8 w hL (qb0 op) (.pointer (some ⟨bx,0,none⟩)) (.pointer (some ⟨by',0,none⟩)) (j9 x) (j9 y) (show Rng 0 from ⟨by decide,by decide⟩) (Nat.zero_le _) (Nat.zero_le _) zx zy ⟨_,rfl⟩ ⟨_,rfl⟩ (fun _=>hx.text) (fun _ _=>hy.text)
 refine Calls.mono (show Calls Tryz.prog 115 #[.agg #[.int .i64 op,.pointer (some ⟨bx,0,none⟩),.pointer (some ⟨by',0,none⟩),.int .i64 0,.string ⟨#[]⟩,.string ⟨#[]⟩,.string ⟨#[]⟩]] w _ from h) ?_
 rintro e w' ⟨rfl,hc,hb⟩
 exact ⟨w.heap.size,rfl,CoAt.two hB hc hb hx hy,hb⟩
theorem qi4 (op:Int) {B:Nat} {w:World} (hB:B≤w.heap.size) (hL:LibOk w) {x y:Co} {vx vy:Value} (hx:CoAt B w.heap.size w vx x) (hy:CoAt B w.heap.size w vy y) (zx:(j9 x).length≤1000000000) (zy:(j9 y).length≤1000000000) :
  Calls Tryz.prog 111 #[.int .i64 op,vx,vy] w fun e w'=>∃b,e=.returned (.pointer (some ⟨b,0,none⟩))∧CoAt B w'.heap.size w' (.pointer (some ⟨b,0,none⟩)) (j8 op x y)∧Below w.heap.size w w':=by
 obtain ⟨bx,rfl⟩:=hx.ptr
 obtain ⟨by',rfl⟩:=hy.ptr
 obtain ⟨bx',ex,hxl,cx⟩:=hx.text
 obtain ⟨by2,ey,hyl,cy⟩:=hy.text
 obtain rfl:bx'=bx:=by injection ex with ex;injection ex with ex;injection ex with ex;exact ex.symm
 obtain rfl:by2=by':=by injection ey with ey;injection ey with ey;injection ey with ey;exact ey.symm
 have S1:Hid (∀w1,Below w.heap.size w w1→Calls Tryz.prog 115 #[.agg #[.int .i64 op,.pointer (some ⟨bx',0,none⟩),.pointer (some ⟨by2,0,none⟩),.int .i64 0,.string ⟨#[]⟩,.string ⟨#[]⟩,.string ⟨#[]⟩]] w1 fun e w'=>∃b,e=.returned (.pointer (some ⟨b,0,none⟩))∧CoAt B w'.heap.size w' (.pointer (some ⟨b,0,none⟩)) (.bin (qb0 op) x y)∧Below w1.heap.size w1 w'):=
  j4 (fun w1 hb=>vh8 op (Nat.le_trans hB hb.size) (hL.below hb (Nat.le_refl _)) (hx.below hb) (hy.below hb) zx zy)
 have S2:Hid (∀w1,Below w.heap.size w w1→Calls Tryz.prog 115 #[.agg #[.int .i64 op,.pointer (some ⟨by2,0,none⟩),.pointer (some ⟨bx',0,none⟩),.int .i64 0,.string ⟨#[]⟩,.string ⟨#[]⟩,.string ⟨#[]⟩]] w1 fun e w'=>∃b,e=.returned (.pointer (some ⟨b,0,none⟩))∧CoAt B w'.heap.size w' (.pointer (some ⟨b,0,none⟩)) (.bin (qb0 op) y x)∧Below w1.heap.size w1 w'):=
  j4 (fun w1 hb=>vh8 op (Nat.le_trans hB hb.size) (hL.below hb (Nat.le_refl _)) (hy.below hb) (hx.below hb) zy zx)
 have hlt:Op.bytesLess (BS (j9 y)).toList (BS (j9 x)).toList=Op.bytesLess (j9 y) (j9 x):=by rw [qe0,qe0]
 have DN:Hid (∀n,Below w.heap.size w (w.drewN n)):=j4 (fun n=>⟨rfl,rfl,rfl,Nat.le_refl _,fun _ _=>rfl⟩)
 unfold j8
 generalize Op.bytesLess (j9 y) (j9 x)=lt at *
 clear hx hy zx zy hL hB ex ey
 cases he:qu2 op with
 | false=>
  rw [Bool.false_and,if_neg (by decide)]
  have TE:Hid (∀w,Calls Tryz.prog 164 #[.int .i64 op] w fun e w'=>e=.returned (.bool false)∧w'=w):=j4 (fun w=>he ▸ qv4 op w)
  clear he
  go_enter Tryz.func111,Tryz.ntmps111
  go_wp2_with fail
  go_quiet ((go_at_call 164;exact Calls.quiet_of_same (q9 TE _)))
  go_wp2_with (go_at_call 115;refine (q9 S1 _ (q9 DN _)).mono ?_;rintro e w2 ⟨b,rfl,hc,hb⟩)
  go_ret
  exact ⟨b,rfl,hc,j6 (q9 DN _) hb⟩
 | true=>
  rw [Bool.true_and]
  have TE:Hid (∀w,Calls Tryz.prog 164 #[.int .i64 op] w fun e w'=>e=.returned (.bool true)∧w'=w):=j4 (fun w=>he ▸ qv4 op w)
  clear he
  cases lt with
  | false=>
   rw [if_neg (by decide)]
   go_enter Tryz.func111,Tryz.ntmps111
   go_wp2_with fail
   go_quiet ((go_at_call 164;exact Calls.quiet_of_same (q9 TE _)))
   go_wp2_with (go_at_call 115;refine (q9 S1 _ (q9 DN _)).mono ?_;rintro e w2 ⟨b,rfl,hc,hb⟩)
   go_ret
   exact ⟨b,rfl,hc,j6 (q9 DN _) hb⟩
  | true=>
   rw [if_pos rfl]
   go_enter Tryz.func111,Tryz.ntmps111
   go_wp2_with fail
   go_quiet ((go_at_call 164;exact Calls.quiet_of_same (q9 TE _)))
   go_wp2_with (go_at_call 115;refine (q9 S2 _ (q9 DN _)).mono ?_;rintro e w2 ⟨b,rfl,hc,hb⟩)
   go_ret
   exact ⟨b,rfl,hc,j6 (q9 DN _) hb⟩
end
section
def uC:Co→Nat
 | .leaf _=>1
 | .un _ x=>uC x
 | .bin p x y=>if p.op==6||p.op==7 then uC x+uC y else 1
theorem jf7:∀c,1≤uC c:=by
 intro c
 induction c with
 | leaf p=>exact Nat.le_refl _
 | un p x ih=>exact ih
 | bin p x y ihx ihy=>unfold uC;split<;>omega
theorem qk0 (op:Int) (x y:Co):uC (j8 op x y)=if op==6||op==7 then uC x+uC y else 1:=by
 unfold j8
 split
 ·show (if (op==6||op==7)=true then uC y+uC x else 1)=_
  rw [Nat.add_comm]
 ·rfl
theorem uC_not:∀c,uC (qe3 c)=uC c:=by
 intro c
 induction c with
 | leaf p=>unfold qe3;split;rfl;split<;>rfl
 | un p x ih=>unfold qe3;split<;>rfl
 | bin p x y ihx ihy=>
  unfold qe3
  by_cases h6:(p.op==6)=true
  ·rw [if_pos h6,qk0,ihx,ihy]
   show (if ((7:Int)==6||(7:Int)==7)=true then _ else _)=if (p.op==6||p.op==7)=true then _ else _
   rw [h6];rfl
  rw [if_neg h6]
  by_cases h7:(p.op==7)=true
  ·rw [if_pos h7,qk0,ihx,ihy]
   show (if ((6:Int)==6||(6:Int)==7)=true then _ else _)=if (p.op==6||p.op==7)=true then _ else _
   rw [h7,Bool.or_true];rfl
  rw [if_neg h7]
  have hu:uC (.bin p x y)=1:=by
   show (if (p.op==6||p.op==7)=true then _ else _)=1
   rw [if_neg]
   rw [Bool.eq_false_iff.2 h6,Bool.eq_false_iff.2 h7];decide
  by_cases h10:(p.op==10)=true
  ·rw [if_pos h10,qk0,hu];rfl
  rw [if_neg h10]
  by_cases h11:(p.op==11)=true
  ·rw [if_pos h11,qk0,hu];rfl
  rw [if_neg h11]
  rfl
theorem qc1 (op:Int) (h1:qm4 op=false) (h2:unB op=false) (x y:Co):(j9 (j8 op x y)).length=(j9 x).length+(j9 y).length+4+(qj8 op).length:=by
 unfold j8
 split
 ·show (qc7 (qb0 op) (j9 y) (j9 x)).length=_
  rw [vk3 h1 h2];simp;omega
 ·show (qc7 (qb0 op) (j9 x) (j9 y)).length=_
  rw [vk3 h1 h2];simp;omega
def binB (op:Int):Bool:=!qm4 op&&!unB op
theorem qm8 {p:CP} (h:binB p.op=true) (x y:Co):(j9 (.bin p x y)).length=(j9 x).length+(j9 y).length+4+(qj8 p.op).length:=by
 show (qc7 p (j9 x) (j9 y)).length=_
 unfold binB qm4 unB at h
 simp only [Bool.and_eq_true,Bool.not_eq_true',Bool.or_eq_false_iff] at h
 obtain ⟨⟨⟨⟨⟨a,b⟩,c⟩,d⟩,e⟩,⟨f,g⟩,i⟩:=h
 simp only [qc7,a,b,c,d,e,f,g,i]
 simp
 omega
def WfC:Co→Prop
 | .leaf p=>qm4 p.op=true
 | .un p x=>unB p.op=true∧WfC x
 | .bin p x y=>binB p.op=true∧WfC x∧WfC y
theorem qg3 {op:Int} (h:binB op=true) {x y:Co} (hx:WfC x) (hy:WfC y):WfC (j8 op x y):=by
 unfold j8
 split
 ·exact ⟨h,hy,hx⟩
 ·exact ⟨h,hx,hy⟩
theorem wfC_not:∀c,WfC c→WfC (qe3 c):=by
 intro c
 induction c with
 | leaf p=>intro h;unfold qe3;split;exact rfl;split;exact rfl;exact ⟨rfl,h⟩
 | un p x ih=>intro h;unfold qe3;split;exact h.2;exact ⟨rfl,h⟩
 | bin p x y ihx ihy=>
  intro h
  unfold qe3
  split
  ·exact qg3 rfl (ihx h.2.1) (ihy h.2.2)
  split
  ·exact qg3 rfl (ihx h.2.1) (ihy h.2.2)
  split
  ·exact qg3 rfl h.2.2 h.2.1
  split
  ·exact qg3 rfl h.2.2 h.2.1
  ·exact ⟨rfl,h⟩
theorem vb7 (c:Co):(j9 (.un (qb0 5) c)).length=(j9 c).length+6:=by
 show (qc7 (qb0 5) (j9 c) []).length=_
 simp [qc7,qb0]
theorem qm9:∀c,WfC c→(j9 (qe3 c)).length+1≤(j9 c).length+7 * uC c:=by
 intro c
 induction c with
 | leaf p=>
  intro _
  unfold qe3
  split
  ·rename_i h;have:(j9 (.leaf p)).length=4:=by show (qc7 p [] []).length=4;rw [qc7,eq_of_beq h];rfl
   show 5+1≤_+7 * 1;omega
  split
  ·show 4+1≤_+7 * 1;omega
  ·rw [vb7];show _≤_+7 * 1;omega
 | un p x ih=>
  intro hw
  have hp:=jf7 x
  unfold qe3
  split
  ·rename_i h
   simp only [Bool.and_eq_true,beq_iff_eq] at h
   have:(j9 (.un p x)).length=(j9 x).length+6:=by show (qc7 p (j9 x) []).length=_;simp [qc7,h.1]
   show _≤_+7 * uC x;omega
  ·rw [vb7];show _≤_+7 * uC x;omega
 | bin p x y ihx ihy=>
  intro hw
  have hx:=ihx hw.2.1
  have hy:=ihy hw.2.2
  have hs:=qm8 hw.1 x y
  have hsg:=qz9 p.op
  unfold qe3
  by_cases h6:(p.op==6)=true
  ·rw [if_pos h6,qc1 7 rfl rfl,hs]
   have:uC (.bin p x y)=uC x+uC y:=by show (if (p.op==6||p.op==7)=true then _ else _)=_;rw [h6];rfl
   rw [this]
   have:(qj8 p.op).length=3:=by rw [eq_of_beq h6];rfl
   show _+_+4+2+1≤_;omega
  rw [if_neg h6]
  by_cases h7:(p.op==7)=true
  ·rw [if_pos h7,qc1 6 rfl rfl,hs]
   have:uC (.bin p x y)=uC x+uC y:=by show (if (p.op==6||p.op==7)=true then _ else _)=_;rw [h7,Bool.or_true];rfl
   rw [this]
   have:(qj8 p.op).length=2:=by rw [eq_of_beq h7];rfl
   show _+_+4+3+1≤_;omega
  rw [if_neg h7]
  have hu:uC (.bin p x y)=1:=by
   show (if (p.op==6||p.op==7)=true then _ else _)=1
   rw [if_neg]
   rw [Bool.eq_false_iff.2 h6,Bool.eq_false_iff.2 h7];decide
  rw [hu]
  by_cases h10:(p.op==10)=true
  ·rw [if_pos h10,qc1 11 rfl rfl,hs]
   show _+_+4+2+1≤_;omega
  rw [if_neg h10]
  by_cases h11:(p.op==11)=true
  ·rw [if_pos h11,qc1 10 rfl rfl,hs]
   show _+_+4+1+1≤_;omega
  rw [if_neg h11,vb7];omega
def qy4 (c:Co):Prop:=∀(B:Nat) (w:World) (v:Value),B≤w.heap.size→LibOk w→CoAt B w.heap.size w v c →
 Calls Tryz.prog 113 #[v] w fun e w'=>∃b,e=.returned (.pointer (some ⟨b,0,none⟩))∧CoAt B w'.heap.size w' (.pointer (some ⟨b,0,none⟩)) (qe3 c)∧Below w.heap.size w w'
theorem qp3 (p:CP) (hp:qm4 p.op=true) (hn:Rng p.num) (h4:p.str.length≤1000000000) (h5:p.esc.length≤1000000000) {B:Nat} {w:World} (hB:B≤w.heap.size) (hL:LibOk w) :
  Calls Tryz.prog 115 #[.agg #[.int .i64 p.op,.pointer none,.pointer none,.int .i64 p.num,.string (BS p.str),.string (BS p.esc),.string ⟨#[]⟩]] w fun e w'=>∃b,e=.returned (.pointer (some ⟨b,0,none⟩))∧CoAt B w'.heap.size w' (.pointer (some ⟨b,0,none⟩)) (.leaf p)∧Below w.heap.size w w':=by
 refine Calls.mono (show Calls Tryz.prog 115 #[.agg #[.int .i64 p.op,.pointer none,.pointer none,.int .i64 p.num,.string (BS p.str),.string (BS p.esc),.string ⟨#[]⟩]] w _ from qx8 w hL p (.pointer none) (.pointer none) [] [] hn h4 h5 (Nat.zero_le _) (Nat.zero_le _) ⟨_,rfl⟩ ⟨_,rfl⟩ (fun h=>by rw [hp] at h;cases h) (fun h=>by rw [hp] at h;cases h)) ?_
 rintro e w' ⟨rfl,hc,hb⟩
 exact ⟨w.heap.size,rfl,⟨w.heap.size,rfl,⟨hB,hc.hi,hc.within,hc.c0,hc.c1,hc.c2,hc.c3,hc.c4,hc.c5,hc.c6⟩⟩,hb⟩
theorem qx9 (p:CP) (hp:unB p.op=true) (hn:Rng p.num) (h4:p.str.length≤1000000000) (h5:p.esc.length≤1000000000) {B:Nat} {w:World} (hB:B≤w.heap.size) (hL:LibOk w) {x:Co} {bx:Nat} (hx:CoAt B w.heap.size w (.pointer (some ⟨bx,0,none⟩)) x) (zx:(j9 x).length≤1000000000) :
  Calls Tryz.prog 115 #[.agg #[.int .i64 p.op,.pointer (some ⟨bx,0,none⟩),.pointer none,.int .i64 p.num,.string (BS p.str),.string (BS p.esc),.string ⟨#[]⟩]] w fun e w'=>∃b,e=.returned (.pointer (some ⟨b,0,none⟩))∧CoAt B w'.heap.size w' (.pointer (some ⟨b,0,none⟩)) (.un p x)∧Below w.heap.size w w':=by
 refine Calls.mono (show Calls Tryz.prog 115 #[.agg #[.int .i64 p.op,.pointer (some ⟨bx,0,none⟩),.pointer none,.int .i64 p.num,.string (BS p.str),.string (BS p.esc),.string ⟨#[]⟩]] w _ from qx8 w hL p (.pointer (some ⟨bx,0,none⟩)) (.pointer none) (j9 x) [] hn h4 h5 zx (Nat.zero_le _) ⟨_,rfl⟩ ⟨_,rfl⟩ (fun _=>hx.text) (fun _ h=>by rw [hp] at h;cases h)) ?_
 rintro e w' ⟨rfl,hc,hb⟩
 exact ⟨w.heap.size,rfl,⟨w.heap.size,_,rfl,⟨hB,hc.hi,hc.within,hc.c0,hc.c1,hc.c2,hc.c3,hc.c4,hc.c5,hc.c6⟩,hx.below hb⟩,hb⟩
end
section
theorem dem_true {want pl:Int}:∀{rs:List CRes} {fit:Bool},dem want pl rs fit=none→fit=true:=by
 intro rs
 induction rs with
 | nil=>intro fit h;cases fit;cases h;rfl
 | cons r t ih=>
  intro fit h
  cases r with
  | err q=>cases h
  | ok c=>
   have:=ih (fit:=fit&&(c==want||c==0)) h
   rw [Bool.and_eq_true] at this
   exact this.1
theorem dem_none {want pl:Int}:∀{rs:List CRes} {fit:Bool},dem want pl rs fit=none→∀r∈rs,∃c,r=.ok c∧(c=want∨c=0):=by
 intro rs
 induction rs with
 | nil=>intro fit _ r hr;cases hr
 | cons r t ih=>
  intro fit h
  cases r with
  | err q=>cases h
  | ok c=>
   have h':dem want pl t (fit&&(c==want||c==0))=none:=h
   have hf:=dem_true h'
   rw [Bool.and_eq_true,Bool.or_eq_true,beq_iff_eq,beq_iff_eq] at hf
   intro r hr
   rcases List.mem_cons.1 hr with rfl|hr
   ·exact ⟨c,rfl,hf.2⟩
   ·exact ih h' r hr
theorem qh4 {want pl c d:Int} {rs:List CRes} (h:qt5 want pl c rs=.ok d):∀r∈rs,∃c,r=.ok c∧(c=want∨c=0):=by
 unfold qt5 at h
 split at h
 ·rename_i hd;exact dem_none hd
 ·cases h
theorem vd4 {pl c:Int} {a b:CRes} (h:qm3 pl a b=.ok c):(∃c,a=.ok c)∧∃c,b=.ok c:=by
 cases a with
 | err q=>cases h
 | ok x=>
  cases b with
  | err q=>cases h
  | ok y=>exact ⟨⟨x,rfl⟩,⟨y,rfl⟩⟩
def ArA:Ast→Prop
 | .leaf p=>p.op=0∨p.op=1
 | .un p x=>(p.op=14∨p.op=15)∧ArA x
 | .bin p x y=>16≤p.op∧p.op≤19∧ArA x∧ArA y
 | .tri _ _ _ _=>False
theorem vf0:∀t c,ShA t→qa4 t=.ok c→(c=1∨c=0)→ArA t:=by
 intro t
 induction t with
 | leaf p=>
  intro c hs hc h
  have hc:qh2 p.op p.place []=.ok c:=hc
  have hs:0≤p.op∧p.op≤4:=hs
  rcases (show p.op=0∨p.op=1∨p.op=2∨p.op=3∨p.op=4 by omega) with e|e|e|e|e
  ·exact .inl e
  ·exact .inr e
  all_goals (rw [e] at hc;injection hc with hc;omega)
 | un p x ih=>
  intro c hs hc h
  have hc:qh2 p.op p.place [qa4 x]=.ok c:=hc
  rcases hs.1 with e|e|e|e|e|e
  ·rw [e] at hc
   have hc:qt5 3 p.place 3 [qa4 x]=.ok c:=hc
   exfalso
   unfold qt5 at hc
   split at hc
   ·injection hc with hc;omega
   ·cases hc
  ·rw [e] at hc
   obtain ⟨d,h1,h2⟩:=qh4 (show qt5 1 p.place 1 [qa4 x]=.ok c from hc) (qa4 x) (by simp)
   exact ⟨.inl e,ih d hs.2.2.2 h1 h2⟩
  ·rw [e] at hc
   obtain ⟨d,h1,h2⟩:=qh4 (show qt5 1 p.place 1 [qa4 x]=.ok c from hc) (qa4 x) (by simp)
   exact ⟨.inr e,ih d hs.2.2.2 h1 h2⟩
  all_goals (rw [e] at hc;injection hc with hc;omega)
 | bin p x y ihx ihy=>
  intro c hs hc h
  have hc:qh2 p.op p.place [qa4 x,qa4 y]=.ok c:=hc
  have d3:∀w,qt5 w p.place 3 [qa4 x,qa4 y]=.ok c→False:=fun w hc=>by
   unfold qt5 at hc
   split at hc
   ·injection hc with hc;omega
   ·cases hc
  have a3:qm3 p.place (qa4 x) (qa4 y)=.ok c→False:=fun hc=>by
   obtain ⟨⟨a,ea⟩,b,eb⟩:=vd4 hc
   rw [ea,eb] at hc
   have hc:(if (a != b&&a != 0&&b != 0)=true then CRes.err p.place else CRes.ok 3)=.ok c:=hc
   split at hc
   ·cases hc
   ·injection hc with hc;omega
  have d1:qt5 1 p.place 1 [qa4 x,qa4 y]=.ok c→ArA x∧ArA y:=fun hc=>by
   obtain ⟨d,h1,h2⟩:=qh4 hc (qa4 x) (by simp)
   obtain ⟨e,h3,h4⟩:=qh4 hc (qa4 y) (by simp)
   exact ⟨ihx d hs.2.1 h1 h2,ihy e hs.2.2 h3 h4⟩
  rcases (show p.op=6∨p.op=7∨p.op=8∨p.op=9∨p.op=10∨p.op=11∨p.op=12∨p.op=13∨p.op=16∨p.op=17∨p.op=18∨p.op=19 by have:=hs.1;omega) with e|e|e|e|e|e|e|e|e|e|e|e
  ·rw [e] at hc;exact absurd hc (d3 3)
  ·rw [e] at hc;exact absurd hc (d3 3)
  ·rw [e] at hc;exact absurd hc a3
  ·rw [e] at hc;exact absurd hc a3
  ·rw [e] at hc;exact absurd hc (d3 1)
  ·rw [e] at hc;exact absurd hc (d3 1)
  ·rw [e] at hc;exact absurd hc (d3 1)
  ·rw [e] at hc;exact absurd hc (d3 1)
  all_goals (rw [e] at hc;exact ⟨by omega,by omega,(d1 hc).1,(d1 hc).2⟩)
 | tri p x y z ihx ihy ihz=>
  intro c hs hc h
  have hc:qh2 p.op p.place [qa4 x,qa4 y,qa4 z]=.ok c:=hc
  rw [hs.1] at hc
  have hc:qt5 1 p.place 3 [qa4 x,qa4 y,qa4 z]=.ok c:=hc
  exfalso
  unfold qt5 at hc
  split at hc
  ·injection hc with hc;omega
  ·cases hc
theorem qy8 (p:CP) (hs:p.str.length≤200) (hn:Rng p.num) (ho:qm4 p.op=true):(j9 (.leaf p)).length≤402:=by
 show (qc7 p [] []).length≤402
 have hq:=qz0 p.str
 have hi:=Lib.itoa_length_le p.num hn.1 hn.2
 unfold qm4 at ho
 simp only [Bool.or_eq_true,beq_iff_eq] at ho
 unfold qc7
 rcases ho with (((e|e)|e)|e)|e
 ·rw [e];show p.str.length≤402;omega
 ·rw [e];show (Lib.itoa p.num).length≤402;omega
 ·rw [e];show (qL p.str).length≤402;omega
 ·rw [e];show 4≤402;omega
 ·rw [e];show 5≤402;omega
theorem vd9:(j9 (vb2 0)).length≤21:=Lib.itoa_length_le 0 (by decide) (by decide)
theorem ar_len:∀t,ArA t→vd2 t→vd3 t→(j9 (j7 t)).length≤500 * ndA t:=by
 intro t
 induction t with
 | leaf p=>
  intro ha hb hn
  have:=qy8 (qu0 p) hb.1 hn (by unfold qm4;rcases ha with e|e<;>simp [qu0,e])
  show (j9 (.leaf (qu0 p))).length≤500 * 1
  omega
 | un p x ih=>
  intro ha hb hn
  have h:=ih ha.2 hb.2 hn.2
  have hz:(j9 (vb2 0)).length≤21:=vd9
  have hnd:ndA (.un p x)=1+p.texts.length+ndA x:=rfl
  rcases ha.1 with e|e
  ·have:j7 (.un p x)=j8 16 (vb2 0) (j7 x):=by rw [j7,e];rfl
   rw [this,qc1 16 rfl rfl,hnd]
   have:(qj8 16).length=1:=rfl
   omega
  ·have:j7 (.un p x)=j8 17 (vb2 0) (j7 x):=by rw [j7,e];rfl
   rw [this,qc1 17 rfl rfl,hnd]
   have:(qj8 17).length=1:=rfl
   omega
 | bin p x y ihx ihy=>
  intro ha hb hn
  obtain ⟨h1,h2,ax,ay⟩:=ha
  have hx:=ihx ax hb.2.1 hn.2.1
  have hy:=ihy ay hb.2.2 hn.2.2
  have hnd:ndA (.bin p x y)=1+ndA x+ndA y:=rfl
  have hsg:=qz9 p.op
  have:j7 (.bin p x y)=j8 p.op (j7 x) (j7 y):=by
   rw [j7,if_neg (by simp;omega),if_neg (by simp;omega),if_neg (by simp;omega)]
  rw [this,qc1 p.op (by unfold qm4;simp;omega) (by unfold unB;simp;omega),hnd]
  omega
 | tri p x y z ihx ihy ihz=>intro ha;exact absurd ha id
end
section
theorem ja3 {zs:List (List UInt8)} {x:List UInt8} (h:x∈Lib.compact zs):x∈zs:=by
 unfold Lib.compact Lib.compactUpTo at h
 obtain ⟨i,hi,rfl⟩:=List.mem_map.1 h
 have hi:=List.mem_range.1 (List.mem_filter.1 hi).1
 have:zs.toArray[i]! = zs[i]:=by simp [hi]
 rw [this]
 exact List.getElem_mem _
theorem vf2 (zs:List (List UInt8)):(Lib.compact zs).length≤zs.length:=by
 unfold Lib.compact Lib.compactUpTo
 rw [List.length_map]
 exact Nat.le_trans (List.length_filter_le _ _) (by rw [List.length_range];exact Nat.le_refl _)
theorem jh0 {zs:List (List UInt8)} (h:zs≠[]):Lib.compact zs≠[]:=by
 cases zs with
 | nil=>exact absurd rfl h
 | cons a r=>
  intro e
  unfold Lib.compact Lib.compactUpTo at e
  rw [List.map_eq_nil_iff] at e
  have:0∈(List.range (a::r).length).filter (Lib.keeps (a::r).toArray):=List.mem_filter.2 ⟨List.mem_range.2 (by simp),Lib.keeps_lt_one _ 0 (by decide)⟩
  rw [e] at this
  cases this
theorem vh6 {ts:List (List UInt8)} {x:List UInt8} (h:x∈qf4 ts):x∈ts:=by
 unfold qf4 at h
 exact (List.mem_mergeSort).1 (ja3 h)
theorem va1 (ts:List (List UInt8)):(qf4 ts).length≤ts.length:=by
 unfold qf4
 exact Nat.le_trans (vf2 _) (by rw [List.length_mergeSort];exact Nat.le_refl _)
theorem ve4 {ts:List (List UInt8)} (h:ts≠[]):qf4 ts≠[]:=by
 unfold qf4
 refine jh0 (fun e=>h ?_)
 have:=congrArg List.length e
 rw [List.length_mergeSort] at this
 exact List.eq_nil_of_length_eq_zero this
theorem qp4 (t:List UInt8) (h:t.length≤200):(j9 (qd9 t)).length≤402:=by
 show (qL t).length≤402
 have:=qz0 t
 omega
theorem vg3 (x:Co):∀(r:List (List UInt8)) (f:Co),(∀t∈r,t.length≤200)→(j9 (qp7 x f r)).length≤(j9 f).length+r.length * ((j9 x).length+420):=by
 intro r
 induction r with
 | nil=>intro f _;show (j9 f).length≤_;omega
 | cons t r ih=>
  intro f h
  have h1:=ih (j8 7 f (j8 8 x (qd9 t))) (fun u hu=>h u (List.mem_cons_of_mem _ hu))
  rw [qc1 7 rfl rfl,qc1 8 rfl rfl] at h1
  have h2:=qp4 t (h t List.mem_cons_self)
  have e7:(qj8 7).length=2:=rfl
  have e8:(qj8 8).length=1:=rfl
  show (j9 (qp7 x (j8 7 f (j8 8 x (qd9 t))) r)).length≤_
  rw [List.length_cons,Nat.succ_mul]
  omega
theorem orAll_u (x:Co):∀(r:List (List UInt8)) (f:Co),uC (qp7 x f r)=uC f+r.length:=by
 intro r
 induction r with
 | nil=>intro f;rfl
 | cons t r ih=>
  intro f
  show uC (qp7 x (j8 7 f (j8 8 x (qd9 t))) r)=_
  rw [ih,qk0,qk0]
  show uC f+1+r.length=_
  rw [List.length_cons];omega
theorem je6 {x:Co} (hx:WfC x):∀(r:List (List UInt8)) (f:Co),WfC f→WfC (qp7 x f r):=by
 intro r
 induction r with
 | nil=>intro f h;exact h
 | cons t r ih=>intro f h;exact ih _ (qg3 rfl h (qg3 rfl hx rfl))
theorem qp1 {x:Ast} (hs:ShA x) (h:opA x=0):∃q,x=.leaf q∧q.op=0:=by
 cases x with
 | leaf q=>exact ⟨q,rfl,h⟩
 | un p y=>have:=hs.1;have h:p.op=0:=h;omega
 | bin p y z=>have:=hs.1;have h:p.op=0:=h;omega
 | tri p y z u=>have:=hs.1;have h:p.op=0:=h;omega
theorem sq_add (a b:Nat) (k:Nat) (hk:k≤3000):3000 * (a * a)+3000 * (b * b)+k≤3000 * ((1+a+b) * (1+a+b)):=by
 have:(1+a+b) * (1+a+b)=a * a+b * b+2 * (a * b)+2 * a+2 * b+1:=by
  simp only [Nat.add_mul,Nat.mul_add,Nat.one_mul,Nat.mul_one]
  have:=Nat.mul_comm b a
  omega
 rw [this]
 omega
theorem vw1 (a m:Nat) (k:Nat) (hk:k≤3000+6000 * a):3000 * (a * a)+k≤3000 * ((1+m+a) * (1+m+a)):=by
 have h1:(1+a) * (1+a)≤(1+m+a) * (1+m+a):=Nat.mul_le_mul (by omega) (by omega)
 have h2:(1+a) * (1+a)=a * a+2 * a+1:=by
  simp only [Nat.add_mul,Nat.mul_add,Nat.one_mul,Nat.mul_one]
  omega
 omega
structure Gd (t:Ast):Prop where
 len:(j9 (j7 t)).length≤3000 * (ndA t * ndA t)
 un:uC (j7 t)≤ndA t
 wf:WfC (j7 t)
theorem nd_pos:∀t,1≤ndA t:=by
 intro t
 cases t<;>(unfold ndA;omega)
def GdA:Ast→Prop
 | .leaf p=>Gd (.leaf p)
 | .un p x=>Gd (.un p x)∧GdA x
 | .bin p x y=>Gd (.bin p x y)∧GdA x∧GdA y
 | .tri p x y z=>Gd (.tri p x y z)∧GdA x∧GdA y∧GdA z
theorem GdA.gd {t:Ast} (h:GdA t):Gd t:=by
 cases t with
 | leaf p=>exact h
 | un p x=>exact h.1
 | bin p x y=>exact h.1
 | tri p x y z=>exact h.1
theorem gd_leaf (p:Pay) (hs:ShA (.leaf p)) (hb:vd2 (.leaf p)) (hn:vd3 (.leaf p)):Gd (.leaf p):=by
 have hl:qm4 (qu0 p).op=true:=by
  have hs:0≤p.op∧p.op≤4:=hs
  unfold qm4 qu0
  simp only [Bool.or_eq_true,beq_iff_eq]
  omega
 refine ⟨?_,Nat.le_refl _,hl⟩
 have:=qy8 (qu0 p) hb.1 hn hl
 show (j9 (.leaf (qu0 p))).length≤3000 * (1 * 1)
 omega
theorem vz5 {op:Int} (hop:binB op=true) {p:Pay} {x y:Ast} (hx:Gd x) (hy:Gd y) (u v:Co) (hu:(u=j7 x∧v=j7 y)∨(u=j7 y∧v=j7 x)) (he:j7 (.bin p x y)=j8 op u v):Gd (.bin p x y):=by
 have h12:qm4 op=false∧unB op=false:=by
  unfold binB at hop
  simpa using hop
 have hl:(j9 u).length+(j9 v).length=(j9 (j7 x)).length+(j9 (j7 y)).length:=by rcases hu with ⟨rfl,rfl⟩|⟨rfl,rfl⟩<;>omega
 have hc:uC u+uC v=uC (j7 x)+uC (j7 y):=by rcases hu with ⟨rfl,rfl⟩|⟨rfl,rfl⟩<;>omega
 have hw:WfC u∧WfC v:=by
  rcases hu with ⟨rfl,rfl⟩|⟨rfl,rfl⟩
  ·exact ⟨hx.wf,hy.wf⟩
  ·exact ⟨hy.wf,hx.wf⟩
 have hsg:=qz9 op
 have h1:=hx.len
 have h2:=hy.len
 have h3:=hx.un
 have h4:=hy.un
 have hnd:ndA (.bin p x y)=1+ndA x+ndA y:=rfl
 refine ⟨?_, ?_, ?_⟩
 ·rw [he,qc1 op h12.1 h12.2,hnd]
  have:=sq_add (ndA x) (ndA y) 7 (by decide)
  omega
 ·rw [he,qk0,hnd]
  split<;>omega
 ·rw [he];exact qg3 hop hw.1 hw.2
theorem gd_every:∀t,ShA t→vd2 t→vd3 t→BqA t→(∃c,qa4 t=.ok c)→GdA t:=by
 intro t
 induction t with
 | leaf p=>intro hs hb hn _ _;exact gd_leaf p hs hb hn
 | un p x ih=>
  intro hs hb hn hq hc
  obtain ⟨c,hc⟩:=hc
  have hc:qh2 p.op p.place [qa4 x]=.ok c:=hc
  have hcx:∃d,qa4 x=.ok d:=by
   rcases hs.1 with e|e|e|e|e|e
   ·rw [e] at hc
    obtain ⟨d,h1,_⟩:=qh4 (show qt5 3 p.place 3 [qa4 x]=.ok c from hc) (qa4 x) (by simp)
    exact ⟨d,h1⟩
   ·rw [e] at hc
    obtain ⟨d,h1,_⟩:=qh4 (show qt5 1 p.place 1 [qa4 x]=.ok c from hc) (qa4 x) (by simp)
    exact ⟨d,h1⟩
   ·rw [e] at hc
    obtain ⟨d,h1,_⟩:=qh4 (show qt5 1 p.place 1 [qa4 x]=.ok c from hc) (qa4 x) (by simp)
    exact ⟨d,h1⟩
   all_goals
    obtain ⟨q,rfl,hq0⟩:=qp1 hs.2.2.2 (hs.2.2.1 (by omega))
    exact ⟨0,by show qh2 q.op q.place []=.ok 0;rw [hq0];rfl⟩
  have hx:=ih hs.2.2.2 hb.2 hn.2 hq.2 hcx
  refine ⟨?_,hx⟩
  have gx:=hx.gd
  have h1:=gx.len
  have h2:=gx.un
  have h3:=nd_pos x
  have hnd:ndA (.un p x)=1+p.texts.length+ndA x:=rfl
  have hz:=vd9
  rcases hs.1 with e|e|e|e|e|e
  ·have he:j7 (.un p x)=qe3 (j7 x):=by rw [j7,e];rfl
   have hl:=qm9 (j7 x) gx.wf
   refine ⟨?_,by rw [he,uC_not,hnd];omega,by rw [he];exact wfC_not _ gx.wf⟩
   rw [he,hnd]
   have:=vw1 (ndA x) p.texts.length (7 * ndA x) (by omega)
   omega
  ·have he:j7 (.un p x)=j8 16 (vb2 0) (j7 x):=by rw [j7,e];rfl
   have e16:(qj8 16).length=1:=rfl
   refine ⟨?_,by rw [he,qk0,hnd];show 1≤_;omega,by rw [he];exact qg3 rfl rfl gx.wf⟩
   rw [he,qc1 16 rfl rfl,hnd]
   have:=vw1 (ndA x) p.texts.length 30 (by omega)
   omega
  ·have he:j7 (.un p x)=j8 17 (vb2 0) (j7 x):=by rw [j7,e];rfl
   have e17:(qj8 17).length=1:=rfl
   refine ⟨?_,by rw [he,qk0,hnd];show 1≤_;omega,by rw [he];exact qg3 rfl rfl gx.wf⟩
   rw [he,qc1 17 rfl rfl,hnd]
   have:=vw1 (ndA x) p.texts.length 30 (by omega)
   omega
  ·have he:j7 (.un p x)=qk7 (j7 x) p.texts:=by rw [j7,e];rfl
   have hne:=ve4 (hs.2.1 e)
   have hsl:=va1 p.texts
   have hm:∀u∈qf4 p.texts,u.length≤200:=fun u hu=>hq.1.2 u (vh6 hu)
   obtain ⟨q,rfl,hq0⟩:=qp1 hs.2.2.2 (hs.2.2.1 (by omega))
   have hlx:(j9 (j7 (.leaf q))).length≤402:=qy8 (qu0 q) hb.2.1 hn.2 (by unfold qm4;simp [qu0,hq0])
   cases hsort:qf4 p.texts with
   | nil=>exact absurd hsort hne
   | cons u r=>
    rw [hsort] at hm hsl
    have he2:j7 (.un p (.leaf q))=qp7 (j7 (.leaf q)) (j8 8 (j7 (.leaf q)) (qd9 u)) r:=by rw [he,qk7,hsort]
    have hol:=vg3 (j7 (.leaf q)) r (j8 8 (j7 (.leaf q)) (qd9 u)) (fun y hy=>hm y (List.mem_cons_of_mem _ hy))
    rw [qc1 8 rfl rfl] at hol
    have htl:=qp4 u (hm u List.mem_cons_self)
    have e8:(qj8 8).length=1:=rfl
    rw [List.length_cons] at hsl
    refine ⟨?_, ?_, ?_⟩
    ·rw [he2,hnd]
     have hmul:r.length * ((j9 (j7 (.leaf q))).length+420)≤r.length * 822:=Nat.mul_le_mul_left _ (by omega)
     have hsq:(1+p.texts.length+ndA (.leaf q)) * 1≤(1+p.texts.length+ndA (.leaf q)) * (1+p.texts.length+ndA (.leaf q)):=Nat.mul_le_mul_left _ (by omega)
     omega
    ·rw [he2,orAll_u,qk0,hnd]
     show 1+_≤_
     omega
    ·rw [he2]
     exact je6 gx.wf _ _ (qg3 rfl gx.wf rfl)
  ·have he:j7 (.un p x)=.un (qu0 p) (j7 x):=by rw [j7,e];rfl
   have hl:(j9 (.un (qu0 p) (j7 x))).length≤(j9 (j7 x)).length+830:=by
    show (qc7 (qu0 p) (j9 (j7 x)) []).length≤_
    have a:=qz0 p.str
    have b:=qz0 p.esc
    have c1:=hb.1.1
    have c2:=hq.1.1
    have d:(je2 p.esc).length≤8+(qL p.esc).length:=by unfold je2;split<;>simp<;>omega
    rw [qc7]
    simp only [qu0,e]
    simp
    omega
   refine ⟨?_,by rw [he,hnd];show uC (j7 x)≤_;omega,by rw [he];exact ⟨by unfold unB;simp [qu0,e],gx.wf⟩⟩
   rw [he,hnd]
   have:=vw1 (ndA x) p.texts.length 830 (by omega)
   omega
  ·have he:j7 (.un p x)=.un (qu0 p) (j7 x):=by rw [j7,e];rfl
   have hl:(j9 (.un (qu0 p) (j7 x))).length=(j9 (j7 x)).length+10:=by
    show (qc7 (qu0 p) (j9 (j7 x)) []).length=_
    rw [qc7]
    simp only [qu0,e]
    simp
   refine ⟨?_,by rw [he,hnd];show uC (j7 x)≤_;omega,by rw [he];exact ⟨by unfold unB;simp [qu0,e],gx.wf⟩⟩
   rw [he,hnd]
   have:=vw1 (ndA x) p.texts.length 10 (by omega)
   omega
 | bin p x y ihx ihy=>
  intro hs hb hn hq hc
  obtain ⟨c,hc⟩:=hc
  have hc:qh2 p.op p.place [qa4 x,qa4 y]=.ok c:=hc
  have hcs:(∃d,qa4 x=.ok d)∧∃d,qa4 y=.ok d:=by
   have dm:∀w k,qt5 w p.place k [qa4 x,qa4 y]=.ok c→(∃d,qa4 x=.ok d)∧∃d,qa4 y=.ok d:=fun w k h=>by
    obtain ⟨d,h1,_⟩:=qh4 h (qa4 x) (by simp)
    obtain ⟨e,h3,_⟩:=qh4 h (qa4 y) (by simp)
    exact ⟨⟨d,h1⟩,⟨e,h3⟩⟩
   rcases (show p.op=6∨p.op=7∨p.op=8∨p.op=9∨p.op=10∨p.op=11∨p.op=12∨p.op=13∨p.op=16∨p.op=17∨p.op=18∨p.op=19 by have:=hs.1;omega) with e|e|e|e|e|e|e|e|e|e|e|e<;>rw [e] at hc
   ·exact dm 3 3 hc
   ·exact dm 3 3 hc
   ·exact vd4 (show qm3 p.place (qa4 x) (qa4 y)=.ok c from hc)
   ·exact vd4 (show qm3 p.place (qa4 x) (qa4 y)=.ok c from hc)
   ·exact dm 1 3 hc
   ·exact dm 1 3 hc
   ·exact dm 1 3 hc
   ·exact dm 1 3 hc
   ·exact dm 1 1 hc
   ·exact dm 1 1 hc
   ·exact dm 1 1 hc
   ·exact dm 1 1 hc
  have hx:=ihx hs.2.1 hb.2.1 hn.2.1 hq.2.1 hcs.1
  have hy:=ihy hs.2.2 hb.2.2 hn.2.2 hq.2.2 hcs.2
  refine ⟨?_,hx,hy⟩
  have gx:=hx.gd
  have gy:=hy.gd
  by_cases h12:p.op=12
  ·exact vz5 (op:=10) rfl gx gy (j7 y) (j7 x) (.inr ⟨rfl,rfl⟩) (by rw [j7,h12];rfl)
  by_cases h13:p.op=13
  ·exact vz5 (op:=11) rfl gx gy (j7 y) (j7 x) (.inr ⟨rfl,rfl⟩) (by rw [j7,h13];rfl)
  by_cases h9:p.op=9
  ·have he:j7 (.bin p x y)=qe3 (j8 8 (j7 x) (j7 y)):=by rw [j7,h9];rfl
   have hw:WfC (j8 8 (j7 x) (j7 y)):=qg3 rfl gx.wf gy.wf
   have hl:=qm9 _ hw
   have hu:uC (j8 8 (j7 x) (j7 y))=1:=by rw [qk0];rfl
   rw [hu,qc1 8 rfl rfl] at hl
   have e8:(qj8 8).length=1:=rfl
   have h1:=gx.len
   have h2:=gy.len
   have hnd:ndA (.bin p x y)=1+ndA x+ndA y:=rfl
   refine ⟨?_,by rw [he,uC_not,hu,hnd];omega,by rw [he];exact wfC_not _ hw⟩
   rw [he,hnd]
   have:=sq_add (ndA x) (ndA y) 20 (by decide)
   omega
  ·refine vz5 (op:=p.op) ?_ gx gy (j7 x) (j7 y) (.inl ⟨rfl,rfl⟩) (by rw [j7,if_neg (by simpa using h12),if_neg (by simpa using h13),if_neg (by simpa using h9)])
   have:=hs.1
   unfold binB qm4 unB
   simp only [Bool.and_eq_true,Bool.not_eq_true',Bool.or_eq_false_iff,beq_eq_false_iff_ne]
   omega
 | tri p x y z ihx ihy ihz=>
  intro hs hb hn hq hc
  obtain ⟨c,hc⟩:=hc
  have hc:qh2 p.op p.place [qa4 x,qa4 y,qa4 z]=.ok c:=hc
  rw [hs.1] at hc
  have hc:qt5 1 p.place 3 [qa4 x,qa4 y,qa4 z]=.ok c:=hc
  obtain ⟨d1,x1,x2⟩:=qh4 hc (qa4 x) (by simp)
  obtain ⟨d2,y1,y2⟩:=qh4 hc (qa4 y) (by simp)
  obtain ⟨d3,z1,z2⟩:=qh4 hc (qa4 z) (by simp)
  have hx:=ihx hs.2.1 hb.2.1 hn.2.1 hq.2.1 ⟨_,x1⟩
  have hy:=ihy hs.2.2.1 hb.2.2.1 hn.2.2.1 hq.2.2.1 ⟨_,y1⟩
  have hz:=ihz hs.2.2.2 hb.2.2.2 hn.2.2.2 hq.2.2.2 ⟨_,z1⟩
  refine ⟨?_,hx,hy,hz⟩
  have ax:=ar_len x (vf0 x d1 hs.2.1 x1 x2) hb.2.1 hn.2.1
  have ay:=ar_len y (vf0 y d2 hs.2.2.1 y1 y2) hb.2.2.1 hn.2.2.1
  have az:=ar_len z (vf0 z d3 hs.2.2.2 z1 z2) hb.2.2.2 hn.2.2.2
  have gx:=hx.gd.wf
  have gy:=hy.gd.wf
  have gz:=hz.gd.wf
  have he:j7 (.tri p x y z)=j8 6 (j8 11 (j7 y) (j7 x)) (j8 11 (j7 x) (j7 z)):=rfl
  have hnd:ndA (.tri p x y z)=1+ndA x+ndA y+ndA z:=rfl
  have px:=nd_pos x
  refine ⟨?_,by rw [he,qk0,qk0,qk0,hnd];show 1+1≤_;omega,by rw [he];exact qg3 rfl (qg3 rfl gy gx) (qg3 rfl gx gz)⟩
  rw [he,qc1 6 rfl rfl,qc1 11 rfl rfl,qc1 11 rfl rfl,hnd]
  have e6:(qj8 6).length=3:=rfl
  have e11:(qj8 11).length=2:=rfl
  have hsq:(1+ndA x+ndA y+ndA z) * 1≤(1+ndA x+ndA y+ndA z) * (1+ndA x+ndA y+ndA z):=Nat.mul_le_mul_left _ (by omega)
  omega
theorem vj1 {s:ByteArray} {t:Ast} (h:qn2 s=.ok t):GdA t∧ndA t≤200∧ShA t∧vd3 t∧vd2 t∧BqA t:=by
 have hsh:=vq2 h
 have hcls:∃c,qa4 t=.ok c∧vd3 t∧vd2 t∧BqA t:=by
  unfold qn2 at h
  by_cases hs:s.size≤200
  ·rw [if_pos hs] at h
   cases he:(lvl s 12).E (j3 s st0) with
   | err en pl=>rw [he] at h;cases h
   | ok t1 st=>
    rw [he] at h
    change vx2 t1 st=_ at h
    unfold vx2 at h
    split at h
    ·split at h
     ·rename_i hk
      injection h with h
      subst h
      cases hc:qa4 t1 with
      | err q=>rw [hc] at hk;cases hk
      | ok c=>exact ⟨c,rfl,((lvl_num s 12).E _ _ _ (qe2 s st0) he).1,((lvl_bnd s hs 12).E _ _ _ (qa1 hs st0) he).1,((lvl_bq s hs 12).E _ _ _ (qa1 hs st0) he).1⟩
     ·cases h
    ·cases h
  ·rw [if_neg hs] at h;cases h
 obtain ⟨c,hc,hn,hb,hq⟩:=hcls
 exact ⟨gd_every t hsh.1 hb hn hq ⟨c,hc⟩,hsh.2,hsh.1,hn,hb,hq⟩
end
section
theorem not_leaf3 (p:CP) (ho:p.op=3):qy4 (.leaf p):=by
 intro B w v hB hL h
 have hv:qe3 (.leaf p)=.leaf (qb0 4):=by unfold qe3;rw [ho];rfl
 rw [hv]
 clear hv
 have S:=j4 (qp3 (qb0 4) rfl (show Rng 0 from ⟨by decide,by decide⟩) (Nat.zero_le _) (Nat.zero_le _) hB hL)
 replace S:Hid (Calls Tryz.prog 115 #[.agg #[.int .i64 4,.pointer none,.pointer none,.int .i64 0,.string ⟨#[]⟩,.string ⟨#[]⟩,.string ⟨#[]⟩]] w fun e w'=>∃b,e=.returned (.pointer (some ⟨b,0,none⟩))∧CoAt B w'.heap.size w' (.pointer (some ⟨b,0,none⟩)) (.leaf (qb0 4))∧Below w.heap.size w w'):=S
 obtain ⟨b,rfl,hc⟩:=h
 have c0:=hc.c0
 unfold at0
 have e3:(p.op==3)=true:=by rw [ho];rfl
 clear hc hL hB ho
 go_enter Tryz.func113,Tryz.ntmps113
 go_wp2_with (go_at_call 115;refine (q9 S).mono ?_;rintro e w1 ⟨b1,rfl,hc1,hb1⟩)
 go_ret
 exact ⟨b1,rfl,hc1,hb1⟩
theorem not_leaf4 (p:CP) (ho:p.op=4):qy4 (.leaf p):=by
 intro B w v hB hL h
 have hv:qe3 (.leaf p)=.leaf (qb0 3):=by unfold qe3;rw [ho];rfl
 rw [hv]
 clear hv
 have S:=j4 (qp3 (qb0 3) rfl (show Rng 0 from ⟨by decide,by decide⟩) (Nat.zero_le _) (Nat.zero_le _) hB hL)
 replace S:Hid (Calls Tryz.prog 115 #[.agg #[.int .i64 3,.pointer none,.pointer none,.int .i64 0,.string ⟨#[]⟩,.string ⟨#[]⟩,.string ⟨#[]⟩]] w fun e w'=>∃b,e=.returned (.pointer (some ⟨b,0,none⟩))∧CoAt B w'.heap.size w' (.pointer (some ⟨b,0,none⟩)) (.leaf (qb0 3))∧Below w.heap.size w w'):=S
 obtain ⟨b,rfl,hc⟩:=h
 have c0:=hc.c0
 unfold at0
 have e3:(p.op==3)=false:=by rw [ho];rfl
 have e4:(p.op==4)=true:=by rw [ho];rfl
 clear hc hL hB ho
 go_enter Tryz.func113,Tryz.ntmps113
 go_wp2_with (go_at_call 115;refine (q9 S).mono ?_;rintro e w1 ⟨b1,rfl,hc1,hb1⟩)
 go_ret
 exact ⟨b1,rfl,hc1,hb1⟩
theorem vn3 (c:Co) (p:CP) (hz:(j9 c).length≤1000000000) (hv:qe3 c=.un (qb0 5) c)
  (hop:∀B E w v,CoAt B E w v c→∃b l r,v=at0 b∧CellsC B E w b p l r (j9 c)) (h3:¬p.op=3) (h4:¬p.op=4) (h6:¬p.op=6) (h7:¬p.op=7) (h10:¬p.op=10) (h11:¬p.op=11) (h5:¬p.op=5):qy4 c:=by
 intro B w v hB hL h
 rw [hv]
 obtain ⟨b,l,r,rfl,hc⟩:=hop _ _ _ _ h
 have S:Hid (Calls Tryz.prog 115 #[.agg #[.int .i64 5,.pointer (some ⟨b,0,none⟩),.pointer none,.int .i64 0,.string ⟨#[]⟩,.string ⟨#[]⟩,.string ⟨#[]⟩]] w fun e w'=>∃b,e=.returned (.pointer (some ⟨b,0,none⟩))∧CoAt B w'.heap.size w' (.pointer (some ⟨b,0,none⟩)) (.un (qb0 5) c)∧Below w.heap.size w w'):=
  j4 (qx9 (qb0 5) rfl (show Rng 0 from ⟨by decide,by decide⟩) (Nat.zero_le _) (Nat.zero_le _) hB hL h hz)
 have c0:=hc.c0
 unfold at0
 have e3:(p.op==3)=false:=beq_eq_false_iff_ne.2 h3
 have e4:(p.op==4)=false:=beq_eq_false_iff_ne.2 h4
 have e6:(p.op==6)=false:=beq_eq_false_iff_ne.2 h6
 have e7:(p.op==7)=false:=beq_eq_false_iff_ne.2 h7
 have e10:(p.op==10)=false:=beq_eq_false_iff_ne.2 h10
 have e11:(p.op==11)=false:=beq_eq_false_iff_ne.2 h11
 have e5:(p.op==5)=false:=beq_eq_false_iff_ne.2 h5
 clear hc hL hB h hop hv hz h3 h4 h6 h7 h10 h11 h5
 go_enter Tryz.func113,Tryz.ntmps113
 go_wp2_with (go_at_call 115;refine (q9 S).mono ?_;rintro e w1 ⟨b1,rfl,hc1,hb1⟩)
 go_ret
 exact ⟨b1,rfl,hc1,hb1⟩
theorem not_un5 (p:CP) (x:Co) (ho:p.op=5) (hx0:¬opC x=0):qy4 (.un p x):=by
 intro B w v hB hL h
 have hv:qe3 (.un p x)=x:=by unfold qe3;rw [ho,if_pos];rw [Bool.and_eq_true];exact ⟨rfl,by simpa using hx0⟩
 rw [hv]
 obtain ⟨b,vx,rfl,hc,hx⟩:=h
 obtain ⟨bx,px,lx,rx,rfl,hop,hcx⟩:=hx.head
 have c0:=hc.c0
 have c1:=hc.c1
 have x0:=hcx.c0
 rw [hop] at x0
 have ex:(opC x != 0)=true:=by simpa using hx0
 unfold at0 at c1 hx ⊢
 have HX:=j4 hx
 have e3:(p.op==3)=false:=by rw [ho];rfl
 have e4:(p.op==4)=false:=by rw [ho];rfl
 have e6:(p.op==6)=false:=by rw [ho];rfl
 have e7:(p.op==7)=false:=by rw [ho];rfl
 have e10:(p.op==10)=false:=by rw [ho];rfl
 have e11:(p.op==11)=false:=by rw [ho];rfl
 have e5:(p.op==5)=true:=by rw [ho];rfl
 clear hc hL hB ho hx0 hv hx hop hcx
 go_enter Tryz.func113,Tryz.ntmps113
 go_wp2_with fail
 go_ret
 exact ⟨bx,rfl,q9 HX,Below.refl _ _⟩
theorem not_un50 (p:CP) (x:Co) (ho:p.op=5) (hx0:opC x=0) (hz:(j9 (.un p x)).length≤1000000000):qy4 (.un p x):=by
 intro B w v hB hL h
 have hv:qe3 (.un p x)=.un (qb0 5) (.un p x):=by unfold qe3;rw [hx0,if_neg];rw [Bool.and_eq_true];rintro ⟨_,h⟩;cases h
 rw [hv]
 have H:=h
 obtain ⟨b,vx,rfl,hc,hx⟩:=h
 have S:Hid (Calls Tryz.prog 115 #[.agg #[.int .i64 5,.pointer (some ⟨b,0,none⟩),.pointer none,.int .i64 0,.string ⟨#[]⟩,.string ⟨#[]⟩,.string ⟨#[]⟩]] w fun e w'=>∃b,e=.returned (.pointer (some ⟨b,0,none⟩))∧CoAt B w'.heap.size w' (.pointer (some ⟨b,0,none⟩)) (.un (qb0 5) (.un p x))∧Below w.heap.size w w'):=
  j4 (qx9 (qb0 5) rfl (show Rng 0 from ⟨by decide,by decide⟩) (Nat.zero_le _) (Nat.zero_le _) hB hL H hz)
 obtain ⟨bx,px,lx,rx,rfl,hop,hcx⟩:=hx.head
 have c0:=hc.c0
 have c1:=hc.c1
 have x0:=hcx.c0
 rw [hop,hx0] at x0
 unfold at0 at c1 ⊢
 have e3:(p.op==3)=false:=by rw [ho];rfl
 have e4:(p.op==4)=false:=by rw [ho];rfl
 have e6:(p.op==6)=false:=by rw [ho];rfl
 have e7:(p.op==7)=false:=by rw [ho];rfl
 have e10:(p.op==10)=false:=by rw [ho];rfl
 have e11:(p.op==11)=false:=by rw [ho];rfl
 have e5:(p.op==5)=true:=by rw [ho];rfl
 clear hc hL hB ho hx0 hv hx hop hcx H hz
 go_enter Tryz.func113,Tryz.ntmps113
 go_wp2_with (go_at_call 115;refine (q9 S).mono ?_;rintro e w1 ⟨b1,rfl,hc1,hb1⟩)
 go_ret
 exact ⟨b1,rfl,hc1,hb1⟩
theorem not_bin6 (p:CP) (x y:Co) (ho:p.op=6) (hx:qy4 x) (hy:qy4 y) (zx:(j9 (qe3 x)).length≤1000000000) (zy:(j9 (qe3 y)).length≤1000000000):qy4 (.bin p x y):=by
 intro B w v hB hL h
 have hv:qe3 (.bin p x y)=j8 7 (qe3 x) (qe3 y):=by rw [qe3,ho];rfl
 rw [hv]
 obtain ⟨b,vx,vy,rfl,hc,cx,cy⟩:=h
 obtain ⟨bx,rfl⟩:=cx.ptr
 obtain ⟨by',rfl⟩:=cy.ptr
 have c0:=hc.c0
 have c1:=hc.c1
 have c2:=hc.c2
 have hbw:=hc.within
 have NX:Hid (∀w1,Below w.heap.size w w1→Calls Tryz.prog 113 #[.pointer (some ⟨bx,0,none⟩)] w1 fun e w'=>∃b,e=.returned (.pointer (some ⟨b,0,none⟩))∧CoAt B w'.heap.size w' (.pointer (some ⟨b,0,none⟩)) (qe3 x)∧Below w1.heap.size w1 w'):=
  j4 (fun w1 hb=>hx B w1 _ (Nat.le_trans hB hb.size) (hL.below hb (Nat.le_refl _)) (cx.below hb))
 have NY:Hid (∀w1,Below w.heap.size w w1→Calls Tryz.prog 113 #[.pointer (some ⟨by',0,none⟩)] w1 fun e w'=>∃b,e=.returned (.pointer (some ⟨b,0,none⟩))∧CoAt B w'.heap.size w' (.pointer (some ⟨b,0,none⟩)) (qe3 y)∧Below w1.heap.size w1 w'):=
  j4 (fun w1 hb=>hy B w1 _ (Nat.le_trans hB hb.size) (hL.below hb (Nat.le_refl _)) (cy.below hb))
 have PR:Hid (∀w1 v1 v2,Below w.heap.size w w1→CoAt B w1.heap.size w1 v1 (qe3 x)→CoAt B w1.heap.size w1 v2 (qe3 y)→Calls Tryz.prog 111 #[.int .i64 7,v1,v2] w1 fun e w'=>∃b,e=.returned (.pointer (some ⟨b,0,none⟩))∧CoAt B w'.heap.size w' (.pointer (some ⟨b,0,none⟩)) (j8 7 (qe3 x) (qe3 y))∧Below w1.heap.size w1 w'):=
  j4 (fun w1 v1 v2 hb h1 h2=>qi4 7 (Nat.le_trans hB hb.size) (hL.below hb (Nat.le_refl _)) h1 h2 zx zy)
 have HB:Hid (Below w.heap.size w w.drew):=j4 (Below.refl _ _).drew
 unfold at0 at c1 c2 ⊢
 have e3:(p.op==3)=false:=by rw [ho];rfl
 have e4:(p.op==4)=false:=by rw [ho];rfl
 have e6:(p.op==6)=true:=by rw [ho];rfl
 clear hc hL hB ho hv hx hy zx zy cx cy
 go_enter Tryz.func113,Tryz.ntmps113
 go_wp2_with fail
 go_region_held3 (fun W=>W.cell? ⟨b,1,none⟩=some (.pointer (some ⟨bx,0,none⟩))∧W.cell? ⟨b,2,none⟩=some (.pointer (some ⟨by',0,none⟩))) (go_keep) (first|(go_at_call_of 113 (Value.pointer (some { block:=bx,off:=0 }));refine (q9 NX _ (q9 HB)).mono ?_;rintro e w1 ⟨b1,rfl,k1,hb1⟩;have HB1:=j4 (j6 (q9 HB) hb1);have d1:=((q9 HB1).cell (p:=⟨b,1,none⟩) hbw).trans c1;have d2:=((q9 HB1).cell (p:=⟨b,2,none⟩) hbw).trans c2;have K1:=j4 k1;clear k1 hb1)|(go_at_call_of 113 (Value.pointer (some { block:=by',off:=0 }));refine (q9 NY _ (q9 HB1)).mono ?_;rintro e w2 ⟨b2,rfl,k2,hb2⟩;have HB2:=j4 (j6 (q9 HB1) hb2);have d3:=((q9 HB2).cell (p:=⟨b,1,none⟩) hbw).trans c1;have d4:=((q9 HB2).cell (p:=⟨b,2,none⟩) hbw).trans c2;have K1':=j4 ((q9 K1).below hb2);have K2:=j4 k2;clear k2 hb2)|(go_at_call 111;refine (q9 PR _ _ _ (q9 HB2) (q9 K1') (q9 K2)).mono ?_;rintro e w3 ⟨b3,rfl,k3,hb3⟩;have HB3:=j4 (j6 (q9 HB2) hb3);have d5:=((q9 HB3).cell (p:=⟨b,1,none⟩) hbw).trans c1;have d6:=((q9 HB3).cell (p:=⟨b,2,none⟩) hbw).trans c2;have K3:=j4 k3;clear k3 hb3))
 all_goals (go_wp2_with fail;go_ret;exact ⟨b3,rfl,q9 K3,q9 HB3⟩)
theorem not_bin7 (p:CP) (x y:Co) (ho:p.op=7) (hx:qy4 x) (hy:qy4 y) (zx:(j9 (qe3 x)).length≤1000000000) (zy:(j9 (qe3 y)).length≤1000000000):qy4 (.bin p x y):=by
 intro B w v hB hL h
 have hv:qe3 (.bin p x y)=j8 6 (qe3 x) (qe3 y):=by rw [qe3,ho];rfl
 rw [hv]
 obtain ⟨b,vx,vy,rfl,hc,cx,cy⟩:=h
 obtain ⟨bx,rfl⟩:=cx.ptr
 obtain ⟨by',rfl⟩:=cy.ptr
 have c0:=hc.c0
 have c1:=hc.c1
 have c2:=hc.c2
 have hbw:=hc.within
 have NX:Hid (∀w1,Below w.heap.size w w1→Calls Tryz.prog 113 #[.pointer (some ⟨bx,0,none⟩)] w1 fun e w'=>∃b,e=.returned (.pointer (some ⟨b,0,none⟩))∧CoAt B w'.heap.size w' (.pointer (some ⟨b,0,none⟩)) (qe3 x)∧Below w1.heap.size w1 w'):=
  j4 (fun w1 hb=>hx B w1 _ (Nat.le_trans hB hb.size) (hL.below hb (Nat.le_refl _)) (cx.below hb))
 have NY:Hid (∀w1,Below w.heap.size w w1→Calls Tryz.prog 113 #[.pointer (some ⟨by',0,none⟩)] w1 fun e w'=>∃b,e=.returned (.pointer (some ⟨b,0,none⟩))∧CoAt B w'.heap.size w' (.pointer (some ⟨b,0,none⟩)) (qe3 y)∧Below w1.heap.size w1 w'):=
  j4 (fun w1 hb=>hy B w1 _ (Nat.le_trans hB hb.size) (hL.below hb (Nat.le_refl _)) (cy.below hb))
 have PR:Hid (∀w1 v1 v2,Below w.heap.size w w1→CoAt B w1.heap.size w1 v1 (qe3 x)→CoAt B w1.heap.size w1 v2 (qe3 y)→Calls Tryz.prog 111 #[.int .i64 6,v1,v2] w1 fun e w'=>∃b,e=.returned (.pointer (some ⟨b,0,none⟩))∧CoAt B w'.heap.size w' (.pointer (some ⟨b,0,none⟩)) (j8 6 (qe3 x) (qe3 y))∧Below w1.heap.size w1 w'):=
  j4 (fun w1 v1 v2 hb h1 h2=>qi4 6 (Nat.le_trans hB hb.size) (hL.below hb (Nat.le_refl _)) h1 h2 zx zy)
 have HB:Hid (Below w.heap.size w w.drew):=j4 (Below.refl _ _).drew
 unfold at0 at c1 c2 ⊢
 have e3:(p.op==3)=false:=by rw [ho];rfl
 have e4:(p.op==4)=false:=by rw [ho];rfl
 have e6:(p.op==6)=false:=by rw [ho];rfl
 have e7:(p.op==7)=true:=by rw [ho];rfl
 clear hc hL hB ho hv hx hy zx zy cx cy
 go_enter Tryz.func113,Tryz.ntmps113
 go_wp2_with fail
 go_region_held3 (fun W=>W.cell? ⟨b,1,none⟩=some (.pointer (some ⟨bx,0,none⟩))∧W.cell? ⟨b,2,none⟩=some (.pointer (some ⟨by',0,none⟩))) (go_keep) (first|(go_at_call_of 113 (Value.pointer (some { block:=bx,off:=0 }));refine (q9 NX _ (q9 HB)).mono ?_;rintro e w1 ⟨b1,rfl,k1,hb1⟩;have HB1:=j4 (j6 (q9 HB) hb1);have d1:=((q9 HB1).cell (p:=⟨b,1,none⟩) hbw).trans c1;have d2:=((q9 HB1).cell (p:=⟨b,2,none⟩) hbw).trans c2;have K1:=j4 k1;clear k1 hb1)|(go_at_call_of 113 (Value.pointer (some { block:=by',off:=0 }));refine (q9 NY _ (q9 HB1)).mono ?_;rintro e w2 ⟨b2,rfl,k2,hb2⟩;have HB2:=j4 (j6 (q9 HB1) hb2);have d3:=((q9 HB2).cell (p:=⟨b,1,none⟩) hbw).trans c1;have d4:=((q9 HB2).cell (p:=⟨b,2,none⟩) hbw).trans c2;have K1':=j4 ((q9 K1).below hb2);have K2:=j4 k2;clear k2 hb2)|(go_at_call 111;refine (q9 PR _ _ _ (q9 HB2) (q9 K1') (q9 K2)).mono ?_;rintro e w3 ⟨b3,rfl,k3,hb3⟩;have HB3:=j4 (j6 (q9 HB2) hb3);have d5:=((q9 HB3).cell (p:=⟨b,1,none⟩) hbw).trans c1;have d6:=((q9 HB3).cell (p:=⟨b,2,none⟩) hbw).trans c2;have K3:=j4 k3;clear k3 hb3))
 all_goals (go_wp2_with fail;go_ret;exact ⟨b3,rfl,q9 K3,q9 HB3⟩)
theorem not_bin10 (p:CP) (x y:Co) (ho:p.op=10) (zx:(j9 x).length≤1000000000) (zy:(j9 y).length≤1000000000):qy4 (.bin p x y):=by
 intro B w v hB hL h
 have hv:qe3 (.bin p x y)=j8 11 y x:=by rw [qe3,ho];rfl
 rw [hv]
 obtain ⟨b,vx,vy,rfl,hc,cx,cy⟩:=h
 obtain ⟨bx,rfl⟩:=cx.ptr
 obtain ⟨by',rfl⟩:=cy.ptr
 have c0:=hc.c0
 have c1:=hc.c1
 have c2:=hc.c2
 have hbw:=hc.within
 have PR:Hid (∀w1,Below w.heap.size w w1→Calls Tryz.prog 111 #[.int .i64 11,.pointer (some ⟨by',0,none⟩),.pointer (some ⟨bx,0,none⟩)] w1 fun e w'=>∃b,e=.returned (.pointer (some ⟨b,0,none⟩))∧CoAt B w'.heap.size w' (.pointer (some ⟨b,0,none⟩)) (j8 11 y x)∧Below w1.heap.size w1 w'):=
  j4 (fun w1 hb=>qi4 11 (Nat.le_trans hB hb.size) (hL.below hb (Nat.le_refl _)) (cy.below hb) (cx.below hb) zy zx)
 have HB:Hid (Below w.heap.size w w.drew):=j4 (Below.refl _ _).drew
 unfold at0 at c1 c2 ⊢
 have e3:(p.op==3)=false:=by rw [ho];rfl
 have e4:(p.op==4)=false:=by rw [ho];rfl
 have e6:(p.op==6)=false:=by rw [ho];rfl
 have e7:(p.op==7)=false:=by rw [ho];rfl
 have e10:(p.op==10)=true:=by rw [ho];rfl
 clear hc hL hB ho hv zx zy cx cy
 go_enter Tryz.func113,Tryz.ntmps113
 go_wp2_with fail
 go_region_held3 (fun W=>W.cell? ⟨b,1,none⟩=some (.pointer (some ⟨bx,0,none⟩))∧W.cell? ⟨b,2,none⟩=some (.pointer (some ⟨by',0,none⟩))) (go_keep) (first|(go_at_call 111;refine (q9 PR _ (q9 HB)).mono ?_;rintro e w3 ⟨b3,rfl,k3,hb3⟩;have HB3:=j4 (j6 (q9 HB) hb3);have d5:=((q9 HB3).cell (p:=⟨b,1,none⟩) hbw).trans c1;have d6:=((q9 HB3).cell (p:=⟨b,2,none⟩) hbw).trans c2;have K3:=j4 k3;clear k3 hb3))
 all_goals (go_wp2_with fail;go_ret;exact ⟨b3,rfl,q9 K3,q9 HB3⟩)
theorem not_bin11 (p:CP) (x y:Co) (ho:p.op=11) (zx:(j9 x).length≤1000000000) (zy:(j9 y).length≤1000000000):qy4 (.bin p x y):=by
 intro B w v hB hL h
 have hv:qe3 (.bin p x y)=j8 10 y x:=by rw [qe3,ho];rfl
 rw [hv]
 obtain ⟨b,vx,vy,rfl,hc,cx,cy⟩:=h
 obtain ⟨bx,rfl⟩:=cx.ptr
 obtain ⟨by',rfl⟩:=cy.ptr
 have c0:=hc.c0
 have c1:=hc.c1
 have c2:=hc.c2
 have hbw:=hc.within
 have PR:Hid (∀w1,Below w.heap.size w w1→Calls Tryz.prog 111 #[.int .i64 10,.pointer (some ⟨by',0,none⟩),.pointer (some ⟨bx,0,none⟩)] w1 fun e w'=>∃b,e=.returned (.pointer (some ⟨b,0,none⟩))∧CoAt B w'.heap.size w' (.pointer (some ⟨b,0,none⟩)) (j8 10 y x)∧Below w1.heap.size w1 w'):=
  j4 (fun w1 hb=>qi4 10 (Nat.le_trans hB hb.size) (hL.below hb (Nat.le_refl _)) (cy.below hb) (cx.below hb) zy zx)
 have HB:Hid (Below w.heap.size w w.drew):=j4 (Below.refl _ _).drew
 unfold at0 at c1 c2 ⊢
 have e3:(p.op==3)=false:=by rw [ho];rfl
 have e4:(p.op==4)=false:=by rw [ho];rfl
 have e6:(p.op==6)=false:=by rw [ho];rfl
 have e7:(p.op==7)=false:=by rw [ho];rfl
 have e10:(p.op==10)=false:=by rw [ho];rfl
 have e11:(p.op==11)=true:=by rw [ho];rfl
 clear hc hL hB ho hv zx zy cx cy
 go_enter Tryz.func113,Tryz.ntmps113
 go_wp2_with fail
 go_region_held3 (fun W=>W.cell? ⟨b,1,none⟩=some (.pointer (some ⟨bx,0,none⟩))∧W.cell? ⟨b,2,none⟩=some (.pointer (some ⟨by',0,none⟩))) (go_keep) (first|(go_at_call 111;refine (q9 PR _ (q9 HB)).mono ?_;rintro e w3 ⟨b3,rfl,k3,hb3⟩;have HB3:=j4 (j6 (q9 HB) hb3);have d5:=((q9 HB3).cell (p:=⟨b,1,none⟩) hbw).trans c1;have d6:=((q9 HB3).cell (p:=⟨b,2,none⟩) hbw).trans c2;have K3:=j4 k3;clear k3 hb3))
 all_goals (go_wp2_with fail;go_ret;exact ⟨b3,rfl,q9 K3,q9 HB3⟩)
theorem vt6:∀c,WfC c→(j9 c).length+7 * uC c≤1000000000→qy4 c:=by
 intro c
 induction c with
 | leaf p=>
  intro hw hz
  by_cases h3:p.op=3
  ·exact not_leaf3 p h3
  by_cases h4:p.op=4
  ·exact not_leaf4 p h4
  have hl:p.op=0∨p.op=1∨p.op=2:=by
   have:qm4 p.op=true:=hw
   unfold qm4 at this
   simp only [Bool.or_eq_true,beq_iff_eq] at this
   omega
  refine vn3 _ p (by omega) ?_ (fun B E w v h=>by obtain ⟨b,rfl,hc⟩:=h;exact ⟨b,_,_,rfl,hc⟩) h3 h4 (by omega) (by omega) (by omega) (by omega) (by omega)
  unfold qe3
  rw [if_neg (by simpa using h3),if_neg (by simpa using h4)]
 | un p x ih=>
  intro hw hz
  have hu:p.op=5∨p.op=22∨p.op=23:=by
   have:unB p.op=true:=hw.1
   unfold unB at this
   simp only [Bool.or_eq_true,beq_iff_eq] at this
   omega
  by_cases h5:p.op=5
  ·by_cases hx0:opC x=0
   ·exact not_un50 p x h5 hx0 (by omega)
   ·exact not_un5 p x h5 hx0
  refine vn3 _ p (by omega) ?_ (fun B E w v h=>by obtain ⟨b,vx,rfl,hc,_⟩:=h;exact ⟨b,_,_,rfl,hc⟩) (by omega) (by omega) (by omega) (by omega) (by omega) (by omega) h5
  unfold qe3
  rw [if_neg]
  rw [Bool.and_eq_true]
  rintro ⟨h,_⟩
  exact h5 (eq_of_beq h)
 | bin p x y ihx ihy=>
  intro hw hz
  have hs:=qm8 hw.1 x y
  have lx:=qm9 x hw.2.1
  have ly:=qm9 y hw.2.2
  have hu:uC (.bin p x y)=if (p.op==6||p.op==7)=true then uC x+uC y else 1:=rfl
  by_cases h6:p.op=6
  ·rw [h6] at hu
   have hu:uC (.bin p x y)=uC x+uC y:=hu
   exact not_bin6 p x y h6 (ihx hw.2.1 (by omega)) (ihy hw.2.2 (by omega)) (by omega) (by omega)
  by_cases h7:p.op=7
  ·rw [h7] at hu
   have hu:uC (.bin p x y)=uC x+uC y:=hu
   exact not_bin7 p x y h7 (ihx hw.2.1 (by omega)) (ihy hw.2.2 (by omega)) (by omega) (by omega)
  by_cases h10:p.op=10
  ·exact not_bin10 p x y h10 (by omega) (by omega)
  by_cases h11:p.op=11
  ·exact not_bin11 p x y h11 (by omega) (by omega)
  have hb:=hw.1
  unfold binB qm4 unB at hb
  simp only [Bool.and_eq_true,Bool.not_eq_true',Bool.or_eq_false_iff,beq_eq_false_iff_ne] at hb
  obtain ⟨⟨⟨⟨⟨_,_⟩,_⟩,h3⟩,h4⟩,⟨h5,_⟩,_⟩:=hb
  refine vn3 _ p (by omega) ?_ (fun B E w v h=>by obtain ⟨b,vx,vy,rfl,hc,_⟩:=h;exact ⟨b,_,_,rfl,hc⟩) h3 h4 h6 h7 h10 h11 h5
  unfold qe3
  rw [if_neg (by simpa using h6),if_neg (by simpa using h7),if_neg (by simpa using h10),if_neg (by simpa using h11)]
end
section
def qw2 (B:Nat) (w:World) (c:Co) (e:Ending) (w':World):Prop:=∃b,e=.returned (.pointer (some ⟨b,0,none⟩))∧CoAt B w'.heap.size w' (.pointer (some ⟨b,0,none⟩)) c∧Below w.heap.size w w'
theorem vf1 (n:Int) (hn:Rng n) {B:Nat} {w:World} (hB:B≤w.heap.size) (hL:LibOk w):Calls Tryz.prog 112 #[.int .i64 n] w (qw2 B w (vb2 n)):=by
 have S:Hid (Calls Tryz.prog 115 #[.agg #[.int .i64 1,.pointer none,.pointer none,.int .i64 n,.string ⟨#[]⟩,.string ⟨#[]⟩,.string ⟨#[]⟩]] w (qw2 B w (vb2 n))):=j4 (qp3 ⟨1,n,[],[]⟩ rfl hn (Nat.zero_le _) (Nat.zero_le _) hB hL)
 clear hB hL hn
 go_enter Tryz.func112,Tryz.ntmps112
 go_wp2_with (go_at_call 115;refine (q9 S).mono ?_;rintro e w1 ⟨b1,rfl,hc1,hb1⟩)
 go_ret
 exact ⟨b1,rfl,hc1,hb1⟩
def Lm (c:Co):Prop:=(j9 c).length≤200000000∧uC c≤1000∧WfC c
theorem Gd.lm {t:Ast} (h:Gd t) (hn:ndA t≤200):Lm (j7 t):=by
 have h1:=h.len
 have h2:=h.un
 have:ndA t * ndA t≤200 * 200:=Nat.mul_le_mul hn hn
 exact ⟨by omega,by omega,h.wf⟩
theorem cjoin_14 (lo:Nat) (p:Pay) (sv:Value) {B:Nat} {w:World} {b:Nat} (hB:B≤w.heap.size) (hL:LibOk w) (hN:NodeAt lo w b p sv) (ho:p.op=14) {x:Co} {vx:Value} (hx:CoAt B w.heap.size w vx x) (zx:Lm x) :
  Calls Tryz.prog 67 #[.pointer (some ⟨b,0,none⟩),vx,.pointer none,.pointer none] w (qw2 B w (j8 16 (vb2 0) x)):=by
 obtain ⟨bx,rfl⟩:=hx.ptr
 have c0:=hN.c0
 have NB:Hid (Calls Tryz.prog 112 #[.int .i64 0] w (qw2 B w (vb2 0))):=j4 (vf1 0 ⟨by decide,by decide⟩ hB hL)
 have PR:Hid (∀w1 v1,Below w.heap.size w w1→CoAt B w1.heap.size w1 v1 (vb2 0)→Calls Tryz.prog 111 #[.int .i64 16,v1,.pointer (some ⟨bx,0,none⟩)] w1 (qw2 B w1 (j8 16 (vb2 0) x))):=
  j4 (fun w1 v1 hb h1=>qi4 16 (Nat.le_trans hB hb.size) (hL.below hb (Nat.le_refl _)) h1 (hx.below hb) (Nat.le_trans vd9 (by decide)) (Nat.le_trans zx.1 (by decide)))
 have e14:(p.op==14)=true:=by rw [ho];rfl
 clear hN hB hL hx zx ho
 go_enter Tryz.func67,Tryz.ntmps67
 go_wp2_with (first|(go_at_call 112;refine (q9 NB).mono ?_;rintro e w1 ⟨b1,rfl,k1,hb1⟩;have HB1:=j4 hb1;have K1:=j4 k1;clear hb1 k1)|(go_at_call 111;refine (q9 PR _ _ (q9 HB1) (q9 K1)).mono ?_;rintro e w2 ⟨b2,rfl,k2,hb2⟩;have HB2:=j4 (j6 (q9 HB1) hb2);have K2:=j4 k2;clear hb2 k2))
 go_ret
 exact ⟨b2,rfl,q9 K2,q9 HB2⟩
theorem cjoin_15 (lo:Nat) (p:Pay) (sv:Value) {B:Nat} {w:World} {b:Nat} (hB:B≤w.heap.size) (hL:LibOk w) (hN:NodeAt lo w b p sv) (ho:p.op=15) {x:Co} {vx:Value} (hx:CoAt B w.heap.size w vx x) (zx:Lm x) :
  Calls Tryz.prog 67 #[.pointer (some ⟨b,0,none⟩),vx,.pointer none,.pointer none] w (qw2 B w (j8 17 (vb2 0) x)):=by
 obtain ⟨bx,rfl⟩:=hx.ptr
 have c0:=hN.c0
 have NB:Hid (Calls Tryz.prog 112 #[.int .i64 0] w (qw2 B w (vb2 0))):=j4 (vf1 0 ⟨by decide,by decide⟩ hB hL)
 have PR:Hid (∀w1 v1,Below w.heap.size w w1→CoAt B w1.heap.size w1 v1 (vb2 0)→Calls Tryz.prog 111 #[.int .i64 17,v1,.pointer (some ⟨bx,0,none⟩)] w1 (qw2 B w1 (j8 17 (vb2 0) x))):=
  j4 (fun w1 v1 hb h1=>qi4 17 (Nat.le_trans hB hb.size) (hL.below hb (Nat.le_refl _)) h1 (hx.below hb) (Nat.le_trans vd9 (by decide)) (Nat.le_trans zx.1 (by decide)))
 have e14:(p.op==14)=false:=by rw [ho];rfl
 have e15:(p.op==15)=true:=by rw [ho];rfl
 clear hN hB hL hx zx ho
 go_enter Tryz.func67,Tryz.ntmps67
 go_wp2_with (first|(go_at_call 112;refine (q9 NB).mono ?_;rintro e w1 ⟨b1,rfl,k1,hb1⟩;have HB1:=j4 hb1;have K1:=j4 k1;clear hb1 k1)|(go_at_call 111;refine (q9 PR _ _ (q9 HB1) (q9 K1)).mono ?_;rintro e w2 ⟨b2,rfl,k2,hb2⟩;have HB2:=j4 (j6 (q9 HB1) hb2);have K2:=j4 k2;clear hb2 k2))
 go_ret
 exact ⟨b2,rfl,q9 K2,q9 HB2⟩
theorem cjoin_12 (lo:Nat) (p:Pay) (sv:Value) {B:Nat} {w:World} {b:Nat} (hB:B≤w.heap.size) (hL:LibOk w) (hN:NodeAt lo w b p sv) (ho:p.op=12) {x y:Co} {vx vy:Value} (hx:CoAt B w.heap.size w vx x) (hy:CoAt B w.heap.size w vy y) (zx:Lm x) (zy:Lm y) :
  Calls Tryz.prog 67 #[.pointer (some ⟨b,0,none⟩),vx,vy,.pointer none] w (qw2 B w (j8 10 y x)):=by
 obtain ⟨bx,rfl⟩:=hx.ptr
 obtain ⟨by',rfl⟩:=hy.ptr
 have c0:=hN.c0
 have PR:Hid (Calls Tryz.prog 111 #[.int .i64 10,.pointer (some ⟨by',0,none⟩),.pointer (some ⟨bx,0,none⟩)] w (qw2 B w (j8 10 y x))):=
  j4 (qi4 10 hB hL hy hx (Nat.le_trans zy.1 (by decide)) (Nat.le_trans zx.1 (by decide)))
 have e14:(p.op==14)=false:=by rw [ho];rfl
 have e15:(p.op==15)=false:=by rw [ho];rfl
 have e12:(p.op==12)=true:=by rw [ho];rfl
 clear hN hB hL hx hy zx zy ho
 go_enter Tryz.func67,Tryz.ntmps67
 go_wp2_with (go_at_call 111;refine (q9 PR).mono ?_;rintro e w2 ⟨b2,rfl,k2,hb2⟩)
 go_ret
 exact ⟨b2,rfl,k2,hb2⟩
theorem cjoin_13 (lo:Nat) (p:Pay) (sv:Value) {B:Nat} {w:World} {b:Nat} (hB:B≤w.heap.size) (hL:LibOk w) (hN:NodeAt lo w b p sv) (ho:p.op=13) {x y:Co} {vx vy:Value} (hx:CoAt B w.heap.size w vx x) (hy:CoAt B w.heap.size w vy y) (zx:Lm x) (zy:Lm y) :
  Calls Tryz.prog 67 #[.pointer (some ⟨b,0,none⟩),vx,vy,.pointer none] w (qw2 B w (j8 11 y x)):=by
 obtain ⟨bx,rfl⟩:=hx.ptr
 obtain ⟨by',rfl⟩:=hy.ptr
 have c0:=hN.c0
 have PR:Hid (Calls Tryz.prog 111 #[.int .i64 11,.pointer (some ⟨by',0,none⟩),.pointer (some ⟨bx,0,none⟩)] w (qw2 B w (j8 11 y x))):=
  j4 (qi4 11 hB hL hy hx (Nat.le_trans zy.1 (by decide)) (Nat.le_trans zx.1 (by decide)))
 have e14:(p.op==14)=false:=by rw [ho];rfl
 have e15:(p.op==15)=false:=by rw [ho];rfl
 have e12:(p.op==12)=false:=by rw [ho];rfl
 have e13:(p.op==13)=true:=by rw [ho];rfl
 clear hN hB hL hx hy zx zy ho
 go_enter Tryz.func67,Tryz.ntmps67
 go_wp2_with (go_at_call 111;refine (q9 PR).mono ?_;rintro e w2 ⟨b2,rfl,k2,hb2⟩)
 go_ret
 exact ⟨b2,rfl,k2,hb2⟩
theorem cjoin_9 (lo:Nat) (p:Pay) (sv:Value) {B:Nat} {w:World} {b:Nat} (hB:B≤w.heap.size) (hL:LibOk w) (hN:NodeAt lo w b p sv) (ho:p.op=9) {x y:Co} {vx vy:Value} (hx:CoAt B w.heap.size w vx x) (hy:CoAt B w.heap.size w vy y) (zx:Lm x) (zy:Lm y) :
  Calls Tryz.prog 67 #[.pointer (some ⟨b,0,none⟩),vx,vy,.pointer none] w (qw2 B w (qe3 (j8 8 x y))):=by
 obtain ⟨bx,rfl⟩:=hx.ptr
 obtain ⟨by',rfl⟩:=hy.ptr
 have c0:=hN.c0
 have z1:=zx.1
 have z2:=zy.1
 have PR:Hid (Calls Tryz.prog 111 #[.int .i64 8,.pointer (some ⟨bx,0,none⟩),.pointer (some ⟨by',0,none⟩)] w (qw2 B w (j8 8 x y))):=
  j4 (qi4 8 hB hL hx hy (Nat.le_trans zx.1 (by decide)) (Nat.le_trans zy.1 (by decide)))
 have NT:Hid (∀w1 v1,Below w.heap.size w w1→CoAt B w1.heap.size w1 v1 (j8 8 x y)→Calls Tryz.prog 113 #[v1] w1 (qw2 B w1 (qe3 (j8 8 x y)))):=
  j4 (fun w1 v1 hb h1=>vt6 _ (qg3 rfl zx.2.2 zy.2.2) (by rw [qc1 8 rfl rfl,qk0];have e8:(qj8 8).length=1:=rfl;show _+7 * 1≤_;omega) B w1 v1 (Nat.le_trans hB hb.size) (hL.below hb (Nat.le_refl _)) h1)
 have e14:(p.op==14)=false:=by rw [ho];rfl
 have e15:(p.op==15)=false:=by rw [ho];rfl
 have e12:(p.op==12)=false:=by rw [ho];rfl
 have e13:(p.op==13)=false:=by rw [ho];rfl
 have e9:(p.op==9)=true:=by rw [ho];rfl
 clear hN hB hL hx hy zx zy ho z1 z2
 go_enter Tryz.func67,Tryz.ntmps67
 go_wp2_with (first|(go_at_call 111;refine (q9 PR).mono ?_;rintro e w1 ⟨b1,rfl,k1,hb1⟩;have HB1:=j4 hb1;have K1:=j4 k1;clear hb1 k1)|(go_at_call 113;refine (q9 NT _ _ (q9 HB1) (q9 K1)).mono ?_;rintro e w2 ⟨b2,rfl,k2,hb2⟩;have HB2:=j4 (j6 (q9 HB1) hb2);have K2:=j4 k2;clear hb2 k2))
 go_ret
 exact ⟨b2,rfl,q9 K2,q9 HB2⟩
theorem cjoin_5 (lo:Nat) (p:Pay) (sv:Value) {B:Nat} {w:World} {b:Nat} (hB:B≤w.heap.size) (hL:LibOk w) (hN:NodeAt lo w b p sv) (ho:p.op=5) {x:Co} {vx:Value} (hx:CoAt B w.heap.size w vx x) (zx:Lm x) :
  Calls Tryz.prog 67 #[.pointer (some ⟨b,0,none⟩),vx,.pointer none,.pointer none] w (qw2 B w (qe3 x)):=by
 obtain ⟨bx,rfl⟩:=hx.ptr
 have c0:=hN.c0
 have z1:=zx.1
 have z2:=zx.2.1
 have NT:Hid (Calls Tryz.prog 113 #[.pointer (some ⟨bx,0,none⟩)] w (qw2 B w (qe3 x))):=j4 (vt6 x zx.2.2 (by omega) B w _ hB hL hx)
 have e14:(p.op==14)=false:=by rw [ho];rfl
 have e15:(p.op==15)=false:=by rw [ho];rfl
 have e12:(p.op==12)=false:=by rw [ho];rfl
 have e13:(p.op==13)=false:=by rw [ho];rfl
 have e9:(p.op==9)=false:=by rw [ho];rfl
 have e5:(p.op==5)=true:=by rw [ho];rfl
 clear hN hB hL hx zx ho z1 z2
 go_enter Tryz.func67,Tryz.ntmps67
 go_wp2_with (go_at_call 113;refine (q9 NT).mono ?_;rintro e w2 ⟨b2,rfl,k2,hb2⟩)
 go_ret
 exact ⟨b2,rfl,k2,hb2⟩
theorem cjoin_20 (lo:Nat) (p:Pay) (sv:Value) {B:Nat} {w:World} {b:Nat} (hB:B≤w.heap.size) (hL:LibOk w) (hN:NodeAt lo w b p sv) (ho:p.op=20) {x y z:Co} {vx vy vz:Value} (hx:CoAt B w.heap.size w vx x) (hy:CoAt B w.heap.size w vy y) (hz:CoAt B w.heap.size w vz z) (zx:Lm x) (zy:Lm y) (zz:Lm z) :
  Calls Tryz.prog 67 #[.pointer (some ⟨b,0,none⟩),vx,vy,vz] w (qw2 B w (j8 6 (j8 11 y x) (j8 11 x z))):=by
 obtain ⟨bx,rfl⟩:=hx.ptr
 obtain ⟨by',rfl⟩:=hy.ptr
 obtain ⟨bz,rfl⟩:=hz.ptr
 have c0:=hN.c0
 have z1:=zx.1
 have z2:=zy.1
 have z3:=zz.1
 have P1:Hid (Calls Tryz.prog 111 #[.int .i64 11,.pointer (some ⟨by',0,none⟩),.pointer (some ⟨bx,0,none⟩)] w (qw2 B w (j8 11 y x))):=
  j4 (qi4 11 hB hL hy hx (by omega) (by omega))
 have P2:Hid (∀w1,Below w.heap.size w w1→Calls Tryz.prog 111 #[.int .i64 11,.pointer (some ⟨bx,0,none⟩),.pointer (some ⟨bz,0,none⟩)] w1 (qw2 B w1 (j8 11 x z))):=
  j4 (fun w1 hb=>qi4 11 (Nat.le_trans hB hb.size) (hL.below hb (Nat.le_refl _)) (hx.below hb) (hz.below hb) (by omega) (by omega))
 have e11:(qj8 11).length=2:=rfl
 have P3:Hid (∀w1 v1 v2,Below w.heap.size w w1→CoAt B w1.heap.size w1 v1 (j8 11 y x)→CoAt B w1.heap.size w1 v2 (j8 11 x z)→Calls Tryz.prog 111 #[.int .i64 6,v1,v2] w1 (qw2 B w1 (j8 6 (j8 11 y x) (j8 11 x z)))):=
  j4 (fun w1 v1 v2 hb h1 h2=>qi4 6 (Nat.le_trans hB hb.size) (hL.below hb (Nat.le_refl _)) h1 h2 (by rw [qc1 11 rfl rfl];omega) (by rw [qc1 11 rfl rfl];omega))
 have e14:(p.op==14)=false:=by rw [ho];rfl
 have e15:(p.op==15)=false:=by rw [ho];rfl
 have e12:(p.op==12)=false:=by rw [ho];rfl
 have e13:(p.op==13)=false:=by rw [ho];rfl
 have e9:(p.op==9)=false:=by rw [ho];rfl
 have e5:(p.op==5)=false:=by rw [ho];rfl
 have e20:(p.op==20)=true:=by rw [ho];rfl
 clear hN hB hL hx hy hz zx zy zz ho z1 z2 z3 e11
 go_enter Tryz.func67,Tryz.ntmps67
 go_wp2_with fail
 refine (q9 P1).mono ?_
 rintro e w1 ⟨b1,rfl,k1,hb1⟩
 have HB1:=j4 hb1
 have K1:=j4 k1
 clear hb1 k1
 go_wp2_with fail
 refine (q9 P2 _ (q9 HB1)).mono ?_
 rintro e w2 ⟨b2,rfl,k2,hb2⟩
 have HB2:=j4 (j6 (q9 HB1) hb2)
 have K1':=j4 ((q9 K1).below hb2)
 have K2:=j4 k2
 clear hb2 k2
 go_wp2_with fail
 refine (q9 P3 _ _ _ (q9 HB2) (q9 K1') (q9 K2)).mono ?_
 rintro e w3 ⟨b3,rfl,k3,hb3⟩
 have HB3:=j4 (j6 (q9 HB2) hb3)
 have K3:=j4 k3
 clear hb3 k3
 go_wp2_with fail
 go_ret
 exact ⟨b3,rfl,q9 K3,q9 HB3⟩
theorem cjoin_two (lo:Nat) (p:Pay) (sv:Value) {B:Nat} {w:World} {b:Nat} (hB:B≤w.heap.size) (hL:LibOk w) (hN:NodeAt lo w b p sv) (h14:¬p.op=14) (h15:¬p.op=15) (h12:¬p.op=12) (h13:¬p.op=13) (h9:¬p.op=9) (h5:¬p.op=5) (h20:¬p.op=20) (h21:¬p.op=21) {x y:Co} {vx vy:Value} (hx:CoAt B w.heap.size w vx x) (hy:CoAt B w.heap.size w vy y) (zx:Lm x) (zy:Lm y) :
  Calls Tryz.prog 67 #[.pointer (some ⟨b,0,none⟩),vx,vy,.pointer none] w (qw2 B w (j8 p.op x y)):=by
 obtain ⟨bx,rfl⟩:=hx.ptr
 obtain ⟨by',rfl⟩:=hy.ptr
 have c0:=hN.c0
 have PR:Hid (Calls Tryz.prog 111 #[.int .i64 p.op,.pointer (some ⟨bx,0,none⟩),.pointer (some ⟨by',0,none⟩)] w (qw2 B w (j8 p.op x y))):=
  j4 (qi4 p.op hB hL hx hy (Nat.le_trans zx.1 (by decide)) (Nat.le_trans zy.1 (by decide)))
 have e14:(p.op==14)=false:=beq_eq_false_iff_ne.2 h14
 have e15:(p.op==15)=false:=beq_eq_false_iff_ne.2 h15
 have e12:(p.op==12)=false:=beq_eq_false_iff_ne.2 h12
 have e13:(p.op==13)=false:=beq_eq_false_iff_ne.2 h13
 have e9:(p.op==9)=false:=beq_eq_false_iff_ne.2 h9
 have e5:(p.op==5)=false:=beq_eq_false_iff_ne.2 h5
 have e20:(p.op==20)=false:=beq_eq_false_iff_ne.2 h20
 have e21:(p.op==21)=false:=beq_eq_false_iff_ne.2 h21
 clear hN hB hL hx hy zx zy h14 h15 h12 h13 h9 h5 h20 h21
 go_enter Tryz.func67,Tryz.ntmps67
 go_wp2_with (go_at_call 111;refine (q9 PR).mono ?_;rintro e w2 ⟨b2,rfl,k2,hb2⟩)
 go_ret
 exact ⟨b2,rfl,k2,hb2⟩
theorem vi7 (lo:Nat) (p:Pay) (sv:Value) {B:Nat} {w:World} {b:Nat} (hN:NodeAt lo w b p sv) (h14:¬p.op=14) (h15:¬p.op=15) (h12:¬p.op=12) (h13:¬p.op=13) (h9:¬p.op=9) (h5:¬p.op=5) (h20:¬p.op=20) (h21:¬p.op=21) (c:Co) (la:Option Addr)
  (hS:∀w1,Below w.heap.size w w1→Calls Tryz.prog 115 #[.agg #[.int .i64 p.op,.pointer la,.pointer none,.int .i64 p.num,.string (BS p.str),.string (BS p.esc),.string ⟨#[]⟩]] w1 (qw2 B w1 c)) :
  Calls Tryz.prog 67 #[.pointer (some ⟨b,0,none⟩),.pointer la,.pointer none,.pointer none] w (qw2 B w c):=by
 have c0:=hN.c0
 have c3:=hN.c3
 have c4:=hN.c4
 have c5:=hN.c5
 have hbw:=hN.within
 have S:=j4 hS
 have HB:Hid (Below w.heap.size w w.drew):=j4 (Below.refl _ _).drew
 have e14:(p.op==14)=false:=beq_eq_false_iff_ne.2 h14
 have e15:(p.op==15)=false:=beq_eq_false_iff_ne.2 h15
 have e12:(p.op==12)=false:=beq_eq_false_iff_ne.2 h12
 have e13:(p.op==13)=false:=beq_eq_false_iff_ne.2 h13
 have e9:(p.op==9)=false:=beq_eq_false_iff_ne.2 h9
 have e5:(p.op==5)=false:=beq_eq_false_iff_ne.2 h5
 have e20:(p.op==20)=false:=beq_eq_false_iff_ne.2 h20
 have e21:(p.op==21)=false:=beq_eq_false_iff_ne.2 h21
 clear hN hS h14 h15 h12 h13 h9 h5 h20 h21
 go_enter Tryz.func67,Tryz.ntmps67
 go_wp2_with fail
 go_region_held3 (fun W=>W.cell? ⟨b,0,none⟩=some (.int .i64 p.op)∧W.cell? ⟨b,3,none⟩=some (.int .i64 p.num)∧W.cell? ⟨b,4,none⟩=some (.string (BS p.str))∧W.cell? ⟨b,5,none⟩=some (.string (BS p.esc))) (go_keep) (first|(go_at_call 115;refine (q9 S _ (q9 HB)).mono ?_;rintro e w3 ⟨b3,rfl,k3,hb3⟩;have HB3:=j4 (j6 (q9 HB) hb3);have d0:=((q9 HB3).cell (p:=⟨b,0,none⟩) hbw).trans c0;have d3:=((q9 HB3).cell (p:=⟨b,3,none⟩) hbw).trans c3;have d4:=((q9 HB3).cell (p:=⟨b,4,none⟩) hbw).trans c4;have d5:=((q9 HB3).cell (p:=⟨b,5,none⟩) hbw).trans c5;have K3:=j4 k3;clear k3 hb3))
 all_goals (go_wp2_with fail;go_ret;exact ⟨b3,rfl,q9 K3,q9 HB3⟩)
end
section
def ve8:Prop:=∀(lo B:Nat) (w:World) (x:Co) (vx tv:Value) (ts:List (List UInt8)),B≤w.heap.size→LibOk w→CoAt B w.heap.size w vx x→TextsAt lo w tv ts→ts≠[]→ts.length≤200→(∀t∈ts,t.length≤200)→(j9 x).length≤402 →
 Calls Tryz.prog 114 #[vx,tv] w (qw2 B w (qk7 x ts))
def vk5:Ast→Prop
 | .leaf _=>False
 | .un p x=>p.op=21∨vk5 x
 | .bin _ x y=>vk5 x∨vk5 y
 | .tri _ x y z=>vk5 x∨vk5 y∨vk5 z
theorem cjoin_21 (hA:ve8) (lo:Nat) (p:Pay) (sv:Value) {B:Nat} {w:World} {b:Nat} (hB:B≤w.heap.size) (hL:LibOk w) (hN:NodeAt lo w b p sv) (ho:p.op=21) {x:Co} {vx:Value} (hx:CoAt B w.heap.size w vx x) (hne:p.texts≠[]) (hz:p.texts.length≤200) (ht:∀t∈p.texts,t.length≤200) (zx:(j9 x).length≤402) :
  Calls Tryz.prog 67 #[.pointer (some ⟨b,0,none⟩),vx,.pointer none,.pointer none] w (qw2 B w (qk7 x p.texts)):=by
 obtain ⟨bx,rfl⟩:=hx.ptr
 have c0:=hN.c0
 obtain ⟨tv,c6,htv⟩:=hN.c6
 have AM:Hid (Calls Tryz.prog 114 #[.pointer (some ⟨bx,0,none⟩),tv] w (qw2 B w (qk7 x p.texts))):=j4 (hA lo B w x _ tv _ hB hL hx htv hne hz ht zx)
 obtain ⟨ta,tn,tc,rfl⟩:∃a n c,tv=.slice a n c:=by
  rcases htv with ⟨_,rfl⟩|⟨g,cap,rfl,_⟩
  ·exact ⟨_,_,_,rfl⟩
  ·exact ⟨_,_,_,rfl⟩
 have e14:(p.op==14)=false:=by rw [ho];rfl
 have e15:(p.op==15)=false:=by rw [ho];rfl
 have e12:(p.op==12)=false:=by rw [ho];rfl
 have e13:(p.op==13)=false:=by rw [ho];rfl
 have e9:(p.op==9)=false:=by rw [ho];rfl
 have e5:(p.op==5)=false:=by rw [ho];rfl
 have e20:(p.op==20)=false:=by rw [ho];rfl
 have e21:(p.op==21)=true:=by rw [ho];rfl
 clear hN hB hL hx zx ho hne hz ht htv hA
 go_enter Tryz.func67,Tryz.ntmps67
 go_wp2_with (go_at_call 114;refine (q9 AM).mono ?_;rintro e w2 ⟨b2,rfl,k2,hb2⟩)
 go_ret
 exact ⟨b2,rfl,k2,hb2⟩
structure Ok (t:Ast):Prop where
 gd:GdA t
 nd:ndA t≤200
 sh:ShA t
 num:vd3 t
 bnd:vd2 t
 bq:BqA t
theorem ji8 {s:ByteArray} {t:Ast} (h:qn2 s=.ok t):Ok t:=by
 obtain ⟨a,b,c,d,e,f⟩:=vj1 h
 exact ⟨a,b,c,d,e,f⟩
theorem Ok.side {t x:Ast} (h:Ok t) (hx:x∈x9 t):Ok x:=by
 obtain ⟨g,n,s,u,b,q⟩:=h
 cases t with
 | leaf p=>simp [x9] at hx
 | un p y=>
  simp [x9] at hx;subst hx
  have:ndA (.un p x)=1+p.texts.length+ndA x:=rfl
  exact ⟨g.2,by omega,s.2.2.2,u.2,b.2,q.2⟩
 | bin p y z=>
  have:ndA (.bin p y z)=1+ndA y+ndA z:=rfl
  simp [x9] at hx
  rcases hx with rfl|rfl
  ·exact ⟨g.2.1,by omega,s.2.1,u.2.1,b.2.1,q.2.1⟩
  ·exact ⟨g.2.2,by omega,s.2.2,u.2.2,b.2.2,q.2.2⟩
 | tri p y z v=>
  have:ndA (.tri p y z v)=1+ndA y+ndA z+ndA v:=rfl
  simp [x9] at hx
  rcases hx with rfl|rfl|rfl
  ·exact ⟨g.2.1,by omega,s.2.1,u.2.1,b.2.1,q.2.1⟩
  ·exact ⟨g.2.2.1,by omega,s.2.2.1,u.2.2.1,b.2.2.1,q.2.2.1⟩
  ·exact ⟨g.2.2.2,by omega,s.2.2.2,u.2.2.2,b.2.2.2,q.2.2.2⟩
theorem Ok.lm {t:Ast} (h:Ok t):Lm (j7 t):=h.gd.gd.lm h.nd
def SideIs (B:Nat) (w:World) (t:Ast) (j:Nat) (v:Value):Prop:=match (x9 t)[j]? with
 | some x=>CoAt B w.heap.size w v (j7 x)
 | none=>v=.pointer none
theorem cjoin_all (t:Ast) (hA:vk5 t→ve8) (hok:Ok t) (lo:Nat) (sv:Value) {B:Nat} {w:World} {b:Nat} (hB:B≤w.heap.size) (hL:LibOk w) (hN:NodeAt lo w b (qg0 t) sv) {v0 v1 v2:Value} (h0:SideIs B w t 0 v0) (h1:SideIs B w t 1 v1) (h2:SideIs B w t 2 v2) :
  Calls Tryz.prog 67 #[.pointer (some ⟨b,0,none⟩),v0,v1,v2] w (qw2 B w (j7 t)):=by
 cases t with
 | leaf p=>
  have h0:v0=.pointer none:=h0
  have h1:v1=.pointer none:=h1
  have h2:v2=.pointer none:=h2
  subst h0 h1 h2
  have hs:0≤p.op∧p.op≤4:=hok.sh
  exact vi7 lo p sv hN (by omega) (by omega) (by omega) (by omega) (by omega) (by omega) (by omega) (by omega) (.leaf (qu0 p)) none
   (fun w1 hb=>qp3 (qu0 p) (by unfold qm4 qu0;simp only [Bool.or_eq_true,beq_iff_eq];omega) hok.num (Nat.le_trans hok.bnd.1 (by decide)) (Nat.le_trans hok.bq.1 (by decide)) (Nat.le_trans hB hb.size) (hL.below hb (Nat.le_refl _)))
 | un p x=>
  have h0:CoAt B w.heap.size w v0 (j7 x):=h0
  have h1:v1=.pointer none:=h1
  have h2:v2=.pointer none:=h2
  subst h1 h2
  have hx:=hok.side (x:=x) (by simp [x9])
  have zx:=hx.lm
  have hnd:1+p.texts.length+ndA x≤200:=hok.nd
  rcases hok.sh.1 with e|e|e|e|e|e
  ·rw [show j7 (.un p x)=qe3 (j7 x) by rw [j7,e];rfl]
   exact cjoin_5 lo p sv hB hL hN e h0 zx
  ·rw [show j7 (.un p x)=j8 16 (vb2 0) (j7 x) by rw [j7,e];rfl]
   exact cjoin_14 lo p sv hB hL hN e h0 zx
  ·rw [show j7 (.un p x)=j8 17 (vb2 0) (j7 x) by rw [j7,e];rfl]
   exact cjoin_15 lo p sv hB hL hN e h0 zx
  ·rw [show j7 (.un p x)=qk7 (j7 x) p.texts by rw [j7,e];rfl]
   obtain ⟨q,rfl,hq0⟩:=qp1 hok.sh.2.2.2 (hok.sh.2.2.1 (by omega))
   exact cjoin_21 (hA (.inl e)) lo p sv hB hL hN e h0 (hok.sh.2.1 e) (by omega) hok.bq.1.2 (qy8 (qu0 q) hok.bnd.2.1 hok.num.2 (by unfold qm4;simp [qu0,hq0]))
  all_goals
   obtain ⟨bx,rfl⟩:=h0.ptr
   rw [show j7 (.un p x)=.un (qu0 p) (j7 x) by rw [j7,e];rfl]
   exact vi7 lo p sv hN (by omega) (by omega) (by omega) (by omega) (by omega) (by omega) (by omega) (by omega) (.un (qu0 p) (j7 x)) (some ⟨bx,0,none⟩)
    (fun w1 hb=>qx9 (qu0 p) (by unfold unB;simp [qu0,e]) hok.num.1 (Nat.le_trans hok.bnd.1.1 (by decide)) (Nat.le_trans hok.bq.1.1 (by decide)) (Nat.le_trans hB hb.size) (hL.below hb (Nat.le_refl _)) (h0.below hb) (Nat.le_trans zx.1 (by decide)))
 | bin p x y=>
  have h0:CoAt B w.heap.size w v0 (j7 x):=h0
  have h1:CoAt B w.heap.size w v1 (j7 y):=h1
  have h2:v2=.pointer none:=h2
  subst h2
  have zx:=(hok.side (x:=x) (by simp [x9])).lm
  have zy:=(hok.side (x:=y) (by simp [x9])).lm
  by_cases h12:p.op=12
  ·rw [show j7 (.bin p x y)=j8 10 (j7 y) (j7 x) by rw [j7,h12];rfl]
   exact cjoin_12 lo p sv hB hL hN h12 h0 h1 zx zy
  by_cases h13:p.op=13
  ·rw [show j7 (.bin p x y)=j8 11 (j7 y) (j7 x) by rw [j7,h13];rfl]
   exact cjoin_13 lo p sv hB hL hN h13 h0 h1 zx zy
  by_cases h9:p.op=9
  ·rw [show j7 (.bin p x y)=qe3 (j8 8 (j7 x) (j7 y)) by rw [j7,h9];rfl]
   exact cjoin_9 lo p sv hB hL hN h9 h0 h1 zx zy
  rw [show j7 (.bin p x y)=j8 p.op (j7 x) (j7 y) by rw [j7,if_neg (by simpa using h12),if_neg (by simpa using h13),if_neg (by simpa using h9)]]
  have:=hok.sh.1
  exact cjoin_two lo p sv hB hL hN (by omega) (by omega) h12 h13 h9 (by omega) (by omega) (by omega) h0 h1 zx zy
 | tri p x y z=>
  have h0:CoAt B w.heap.size w v0 (j7 x):=h0
  have h1:CoAt B w.heap.size w v1 (j7 y):=h1
  have h2:CoAt B w.heap.size w v2 (j7 z):=h2
  exact cjoin_20 lo p sv hB hL hN hok.sh.1 h0 h1 h2 (hok.side (x:=x) (by simp [x9])).lm (hok.side (x:=y) (by simp [x9])).lm (hok.side (x:=z) (by simp [x9])).lm
end
end Go.Proofs.YtfkcaldjphakpaaGreatDoor
