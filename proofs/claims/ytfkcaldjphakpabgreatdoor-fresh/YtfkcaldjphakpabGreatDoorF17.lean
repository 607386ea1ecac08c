/- Contracts of spell and spelled. spelled, number, pair. pair. not. How long the texts of a selector's cores are at most. Every core of a selector is short enough. -/
import Derived.Test.YtfkcaldjphakpabGreatDoorWCo2
import Derived.Deep.RegionHeld3
import Derived.Lib.ItoaLen
import Derived.Deep.QuietTactic
import Derived.BigQuiet
import Derived.Test.YtfkcaldjphakpabGreatDoorF22
set_option maxHeartbeats 1000000
set_option maxRecDepth 100000
namespace Go.Proofs.YtfkcaldjphakpabGreatDoor
open Go.RowKit
section
theorem escT_len (e:List UInt8):(escT e).length≤2 * e.length+10:=by
 have:=vm5 e
 unfold escT
 split
 ·simp
 ·simp
  omega
theorem ju2 (w:World) (k:Nat) (os:Array Obj):Below w.heap.size w (Sort.grow (w.drewN k) os):=
 ⟨rfl,rfl,rfl,by first|(simp [Sort.grow];done)|(simp [Sort.grow];omega),fun i hi=>by
  show ((w.drewN k).heap++os)[i]?=_
  rw [Array.getElem?_append_left (by show i<w.heap.size;omega)]
  rfl⟩
structure SpA (w:World) (b:Nat) (p:CP) (l r:Value):Prop where
 lib:LibOk w
 lt:b<w.heap.size
 c0:w.cell? ⟨b,0,none⟩=some (.int .i64 p.op)
 c1:w.cell? ⟨b,1,none⟩=some l
 c2:w.cell? ⟨b,2,none⟩=some r
 c3:w.cell? ⟨b,3,none⟩=some (.int .i64 p.num)
 c4:w.cell? ⟨b,4,none⟩=some (.string (BS p.str))
 c5:w.cell? ⟨b,5,none⟩=some (.string (BS p.esc))
 rng:Rng p.num
 s4:p.str.length≤1000000000
 s5:p.esc.length≤1000000000
theorem spell_0 (w:World) (b:Nat) (p:CP) (l r:Value) (h:SpA w b p l r) (lt rt:List UInt8) (ho:p.op=0) :
  Calls Tryz.prog 142 #[at0 b] w fun e w'=>e=.returned (.string (BS (y7 p lt rt)))∧Below w.heap.size w w':=by
 have e0:(p.op==0)=true:=by rw [ho];rfl
 have c0:=h.c0
 have hv:y7 p lt rt=p.str:=by
  unfold y7
  rw [e0]
  rfl
 rw [hv]
 clear hv
 unfold at0
 have c4:=h.c4
 clear h ho
 go_enter Tryz.func142,Tryz.ntmps142
 go_wp2_with fail
 go_ret
 exact ⟨rfl,Below.refl _ _⟩
theorem spell_1 (w:World) (b:Nat) (p:CP) (l r:Value) (h:SpA w b p l r) (lt rt:List UInt8) (ho:p.op=1) :
  Calls Tryz.prog 142 #[at0 b] w fun e w'=>e=.returned (.string (BS (y7 p lt rt)))∧Below w.heap.size w w':=by
 have e0:(p.op==0)=false:=by rw [ho];rfl
 have e1:(p.op==1)=true:=by rw [ho];rfl
 have c0:=h.c0
 have hv:y7 p lt rt=Lib.itoa p.num:=by
  unfold y7
  rw [e0,e1]
  rfl
 rw [hv]
 clear hv
 unfold at0
 have c3:=h.c3
 have HF:=v7 (Tryz.strconv_FormatInt_10 p.num h.rng.1 h.rng.2 w h.lib.pow)
 clear h ho
 go_enter Tryz.func142,Tryz.ntmps142
 go_wp2_with (go_at_call 189;refine (q9 HF).mono ?_;rintro e w1 ⟨rfl,k,os,rfl⟩)
 go_ret
 exact ⟨rfl,ju2 w k os⟩
theorem spell_2 (w:World) (b:Nat) (p:CP) (l r:Value) (h:SpA w b p l r) (lt rt:List UInt8) (ho:p.op=2) :
  Calls Tryz.prog 142 #[at0 b] w fun e w'=>e=.returned (.string (BS (y7 p lt rt)))∧Below w.heap.size w w':=by
 have e0:(p.op==0)=false:=by rw [ho];rfl
 have e1:(p.op==1)=false:=by rw [ho];rfl
 have e2:(p.op==2)=true:=by rw [ho];rfl
 have c0:=h.c0
 have hv:y7 p lt rt=qL p.str:=by
  unfold y7
  rw [e0,e1,e2]
  rfl
 rw [hv]
 clear hv
 unfold at0
 have c4:=h.c4
 have HF:=v7 (va7 p.str h.s4 w h.lib)
 clear h ho
 go_enter Tryz.func142,Tryz.ntmps142
 go_wp2_with (go_at_call 190;refine (q9 HF).mono ?_;rintro e w1 ⟨rfl,hb1⟩)
 go_ret
 exact ⟨rfl,hb1⟩
theorem spell_3 (w:World) (b:Nat) (p:CP) (l r:Value) (h:SpA w b p l r) (lt rt:List UInt8) (ho:p.op=3) :
  Calls Tryz.prog 142 #[at0 b] w fun e w'=>e=.returned (.string (BS (y7 p lt rt)))∧Below w.heap.size w w':=by
 have e0:(p.op==0)=false:=by rw [ho];rfl
 have e1:(p.op==1)=false:=by rw [ho];rfl
 have e2:(p.op==2)=false:=by rw [ho];rfl
 have e3:(p.op==3)=true:=by rw [ho];rfl
 have c0:=h.c0
 have hv:y7 p lt rt=[84,82,85,69]:=by
  unfold y7
  rw [e0,e1,e2,e3]
  rfl
 rw [hv]
 clear hv
 unfold at0
 clear h ho
 go_enter Tryz.func142,Tryz.ntmps142
 go_wp2_with fail
 go_ret
 exact ⟨rfl,Below.refl _ _⟩
theorem spell_4 (w:World) (b:Nat) (p:CP) (l r:Value) (h:SpA w b p l r) (lt rt:List UInt8) (ho:p.op=4) :
  Calls Tryz.prog 142 #[at0 b] w fun e w'=>e=.returned (.string (BS (y7 p lt rt)))∧Below w.heap.size w w':=by
 have e0:(p.op==0)=false:=by rw [ho];rfl
 have e1:(p.op==1)=false:=by rw [ho];rfl
 have e2:(p.op==2)=false:=by rw [ho];rfl
 have e3:(p.op==3)=false:=by rw [ho];rfl
 have e4:(p.op==4)=true:=by rw [ho];rfl
 have c0:=h.c0
 have hv:y7 p lt rt=[70,65,76,83,69]:=by
  unfold y7
  rw [e0,e1,e2,e3,e4]
  rfl
 rw [hv]
 clear hv
 unfold at0
 clear h ho
 go_enter Tryz.func142,Tryz.ntmps142
 go_wp2_with fail
 go_ret
 exact ⟨rfl,Below.refl _ _⟩
theorem spell_5 (w:World) (b:Nat) (p:CP) (l r:Value) (h:SpA w b p l r) (lt rt:List UInt8) (hl:TextAt w l lt) (zl:lt.length≤1000000000) (ho:p.op=5) :
  Calls Tryz.prog 142 #[at0 b] w fun e w'=>e=.returned (.string (BS (y7 p lt rt)))∧Below w.heap.size w w':=by
 have e0:(p.op==0)=false:=by rw [ho];rfl
 have e1:(p.op==1)=false:=by rw [ho];rfl
 have e2:(p.op==2)=false:=by rw [ho];rfl
 have e3:(p.op==3)=false:=by rw [ho];rfl
 have e4:(p.op==4)=false:=by rw [ho];rfl
 have e5:(p.op==5)=true:=by rw [ho];rfl
 have c0:=h.c0
 have hv:y7 p lt rt=[40,78,79,84,32]++lt++[41]:=by
  unfold y7
  rw [e0,e1,e2,e3,e4,e5]
  rfl
 rw [hv]
 clear hv
 unfold at0
 obtain ⟨lb,rfl,hlb,lc⟩:=hl
 unfold at0 at h
 have c1:=h.c1
 obtain ⟨R1,e101,z1,a1⟩:=qh3 ⟨#[40,78,79,84,32]⟩ (BS lt) 5 1000000000 (Nat.le_refl _) (by rw [qc0];omega) (by decide)
 obtain ⟨R2,e102,z2,a2⟩:=qh3 R1 ⟨#[41]⟩ 1000000005 1 z1 (Nat.le_refl _) (by decide)
 have HR:Hid (R2=BS ([40,78,79,84,32]++lt++[41])):=v7 (by
  rw [e102,e101,show (⟨#[40,78,79,84,32]⟩:ByteArray)=BS [40,78,79,84,32] from rfl,show (⟨#[41]⟩:ByteArray)=BS [41] from rfl,qk8,qk8])
 clear e101 z1 e102 z2
 clear h ho
 go_enter Tryz.func142,Tryz.ntmps142
 go_wp2_with fail
 go_ret
 exact ⟨by rw [q9 HR];rfl,Below.refl _ _⟩
theorem spell_23 (w:World) (b:Nat) (p:CP) (l r:Value) (h:SpA w b p l r) (lt rt:List UInt8) (hl:TextAt w l lt) (zl:lt.length≤1000000000) (ho:p.op=23) :
  Calls Tryz.prog 142 #[at0 b] w fun e w'=>e=.returned (.string (BS (y7 p lt rt)))∧Below w.heap.size w w':=by
 have e0:(p.op==0)=false:=by rw [ho];rfl
 have e1:(p.op==1)=false:=by rw [ho];rfl
 have e2:(p.op==2)=false:=by rw [ho];rfl
 have e3:(p.op==3)=false:=by rw [ho];rfl
 have e4:(p.op==4)=false:=by rw [ho];rfl
 have e5:(p.op==5)=false:=by rw [ho];rfl
 have e23:(p.op==23)=true:=by rw [ho];rfl
 have c0:=h.c0
 have hv:y7 p lt rt=[40]++lt++[32,73,83,32,78,85,76,76,41]:=by
  unfold y7
  rw [e0,e1,e2,e3,e4,e5,e23]
  rfl
 rw [hv]
 clear hv
 unfold at0
 obtain ⟨lb,rfl,hlb,lc⟩:=hl
 unfold at0 at h
 have c1:=h.c1
 obtain ⟨R1,e101,z1,a1⟩:=qh3 ⟨#[40]⟩ (BS lt) 1 1000000000 (Nat.le_refl _) (by rw [qc0];omega) (by decide)
 obtain ⟨R2,e102,z2,a2⟩:=qh3 R1 ⟨#[32,73,83,32,78,85,76,76,41]⟩ 1000000001 9 z1 (Nat.le_refl _) (by decide)
 have HR:Hid (R2=BS ([40]++lt++[32,73,83,32,78,85,76,76,41])):=v7 (by
  rw [e102,e101,show (⟨#[40]⟩:ByteArray)=BS [40] from rfl,show (⟨#[32,73,83,32,78,85,76,76,41]⟩:ByteArray)=BS [32,73,83,32,78,85,76,76,41] from rfl,qk8,qk8])
 clear e101 z1 e102 z2
 clear h ho
 go_enter Tryz.func142,Tryz.ntmps142
 go_wp2_with fail
 go_ret
 exact ⟨by rw [q9 HR];rfl,Below.refl _ _⟩
theorem spell_22 (w:World) (b:Nat) (p:CP) (l r:Value) (h:SpA w b p l r) (lt rt:List UInt8) (hl:TextAt w l lt) (zl:lt.length≤1000000000) (ho:p.op=22) :
  Calls Tryz.prog 142 #[at0 b] w fun e w'=>e=.returned (.string (BS (y7 p lt rt)))∧Below w.heap.size w w':=by
 have e0:(p.op==0)=false:=by rw [ho];rfl
 have e1:(p.op==1)=false:=by rw [ho];rfl
 have e2:(p.op==2)=false:=by rw [ho];rfl
 have e3:(p.op==3)=false:=by rw [ho];rfl
 have e4:(p.op==4)=false:=by rw [ho];rfl
 have e5:(p.op==5)=false:=by rw [ho];rfl
 have e23:(p.op==23)=false:=by rw [ho];rfl
 have e22:(p.op==22)=true:=by rw [ho];rfl
 have c0:=h.c0
 have hv:y7 p lt rt=[40]++lt++[32,76,73,75,69,32]++qL p.str++escT p.esc++[41]:=by
  unfold y7
  rw [e0,e1,e2,e3,e4,e5,e23,e22]
  rfl
 rw [hv]
 clear hv
 unfold at0
 obtain ⟨lb,rfl,hlb,lc⟩:=hl
 unfold at0 at h
 have c1:=h.c1
 have c4:=h.c4
 have c5:=h.c5
 have hblt:=h.lt
 have hq:=vm5 p.str
 have s4:=h.s4
 have s5:=h.s5
 have hqe:=escT_len p.esc
 obtain ⟨R1,e101,z1,a1⟩:=qh3 ⟨#[40]⟩ (BS lt) 1 1000000000 (Nat.le_refl _) (by rw [qc0];omega) (by decide)
 obtain ⟨R2,e102,z2,a2⟩:=qh3 R1 ⟨#[32,76,73,75,69,32]⟩ 1000000001 6 z1 (Nat.le_refl _) (by decide)
 obtain ⟨R3,e103,z3,a3⟩:=qh3 R2 (BS (qL p.str)) 1000000007 2000000002 z2 (by rw [qc0];omega) (by decide)
 obtain ⟨R4,e104,z4,a4⟩:=qh3 R3 (BS (escT p.esc)) 3000000009 2000000010 z3 (by rw [qc0];omega) (by decide)
 obtain ⟨R5,e105,z5,a5⟩:=qh3 R4 ⟨#[41]⟩ 5000000019 1 z4 (Nat.le_refl _) (by decide)
 have HR:Hid (R5=BS ([40]++lt++[32,76,73,75,69,32]++qL p.str++escT p.esc++[41])):=v7 (by
  rw [e105,e104,e103,e102,e101,show (⟨#[40]⟩:ByteArray)=BS [40] from rfl,show (⟨#[32,76,73,75,69,32]⟩:ByteArray)=BS [32,76,73,75,69,32] from rfl,show (⟨#[41]⟩:ByteArray)=BS [41] from rfl,qk8,qk8,qk8,qk8,qk8])
 clear e101 z1 e102 z2 e103 z3 e104 z4 e105 z5
 have HQ:Hid (∀w1,Below w.heap.size w w1→Calls Tryz.prog 190 #[.string (BS p.str)] w1 fun e w'=>e=.returned (.string (BS (qL p.str)))∧Below w1.heap.size w1 w'):=v7 (fun w1 hb=>va7 p.str s4 w1 (h.lib.below hb (Nat.le_refl _)))
 have HS:Hid (∀w1,Below w.heap.size w w1→Calls Tryz.prog 191 #[.pointer (some ⟨b,0,none⟩)] w1 fun e w'=>e=.returned (.string (BS (escT p.esc)))∧Below w1.heap.size w1 w'):=v7 (fun w1 hb=>vn7 b p.esc s5 w1 (h.lib.below hb (Nat.le_refl _)) ((hb.cell (p:=⟨b,5,none⟩) hblt).trans c5))
 have HB:Hid (Below w.heap.size w w.drew):=v7 (Below.refl _ _).drew
 clear h ho hq s4 s5 hqe c5
 go_enter Tryz.func142,Tryz.ntmps142
 go_wp2_with fail
 go_region_held3 (fun W=>W.cell? ⟨b,1,none⟩=some (.pointer (some ⟨lb,0,none⟩))∧W.cell? ⟨lb,6,none⟩=some (.string (BS lt))∧W.cell? ⟨b,4,none⟩=some (.string (BS p.str))) (go_keep) (first|(go_at_call 190;refine (q9 HQ _ (q9 HB)).mono ?_;rintro e w1 ⟨rfl,hb1⟩;replace HB:=v7 (v8 (q9 HB) hb1);obtain ⟨hc1,hf1⟩:=j6 (q9 HB);have d1:=(hc1 b 1 hblt).trans c1;have d2:=(hc1 lb 6 hlb).trans lc;have d3:=(hc1 b 4 hblt).trans c4;clear hc1 hf1 hb1)|(go_at_call 191;refine (q9 HS _ (q9 HB)).mono ?_;rintro e w1 ⟨rfl,hb1⟩;replace HB:=v7 (v8 (q9 HB) hb1);obtain ⟨hc1,hf1⟩:=j6 (q9 HB);have d1:=(hc1 b 1 hblt).trans c1;have d2:=(hc1 lb 6 hlb).trans lc;have d3:=(hc1 b 4 hblt).trans c4;clear hc1 hf1 hb1))
 all_goals (go_wp2_with fail;go_ret;exact ⟨by rw [q9 HR];rfl,q9 HB⟩)
theorem spell_bin (w:World) (b:Nat) (p:CP) (l r:Value) (h:SpA w b p l r) (lt rt:List UInt8) (hl:TextAt w l lt) (zl:lt.length≤1000000000) (hr:TextAt w r rt) (zr:rt.length≤1000000000) (h0:¬p.op=0) (h1:¬p.op=1) (h2:¬p.op=2) (h3:¬p.op=3) (h4:¬p.op=4) (h5:¬p.op=5) (h23:¬p.op=23) (h22:¬p.op=22) :
  Calls Tryz.prog 142 #[at0 b] w fun e w'=>e=.returned (.string (BS (y7 p lt rt)))∧Below w.heap.size w w':=by
 have e0:(p.op==0)=false:=beq_eq_false_iff_ne.2 h0
 have e1:(p.op==1)=false:=beq_eq_false_iff_ne.2 h1
 have e2:(p.op==2)=false:=beq_eq_false_iff_ne.2 h2
 have e3:(p.op==3)=false:=beq_eq_false_iff_ne.2 h3
 have e4:(p.op==4)=false:=beq_eq_false_iff_ne.2 h4
 have e5:(p.op==5)=false:=beq_eq_false_iff_ne.2 h5
 have e23:(p.op==23)=false:=beq_eq_false_iff_ne.2 h23
 have e22:(p.op==22)=false:=beq_eq_false_iff_ne.2 h22
 have c0:=h.c0
 have hv:y7 p lt rt=[40]++lt++[32]++qm6 p.op++[32]++rt++[41]:=by
  unfold y7
  rw [e0,e1,e2,e3,e4,e5,e23,e22]
  rfl
 rw [hv]
 clear hv
 unfold at0
 obtain ⟨lb,rfl,hlb,lc⟩:=hl
 obtain ⟨rb,rfl,hrb,rc⟩:=hr
 unfold at0 at h
 have c1:=h.c1
 have c2:=h.c2
 have hsg:=vd4 p.op
 obtain ⟨R1,e101,z1,a1⟩:=qh3 ⟨#[40]⟩ (BS lt) 1 1000000000 (Nat.le_refl _) (by rw [qc0];omega) (by decide)
 obtain ⟨R2,e102,z2,a2⟩:=qh3 R1 ⟨#[32]⟩ 1000000001 1 z1 (Nat.le_refl _) (by decide)
 obtain ⟨R3,e103,z3,a3⟩:=qh3 R2 (BS (qm6 p.op)) 1000000002 1000 z2 (by rw [qc0];omega) (by decide)
 obtain ⟨R4,e104,z4,a4⟩:=qh3 R3 ⟨#[32]⟩ 1000001002 1 z3 (Nat.le_refl _) (by decide)
 obtain ⟨R5,e105,z5,a5⟩:=qh3 R4 (BS rt) 1000001003 1000000000 z4 (by rw [qc0];omega) (by decide)
 obtain ⟨R6,e106,z6,a6⟩:=qh3 R5 ⟨#[41]⟩ 2000001003 1 z5 (Nat.le_refl _) (by decide)
 have HR:Hid (R6=BS ([40]++lt++[32]++qm6 p.op++[32]++rt++[41])):=v7 (by
  rw [e106,e105,e104,e103,e102,e101,show (⟨#[40]⟩:ByteArray)=BS [40] from rfl,show (⟨#[32]⟩:ByteArray)=BS [32] from rfl,show (⟨#[41]⟩:ByteArray)=BS [41] from rfl,qk8,qk8,qk8,qk8,qk8,qk8])
 clear e101 z1 e102 z2 e103 z3 e104 z4 e105 z5 e106 z6
 clear h hsg zl zr h0 h1 h2 h3 h4 h5 h23 h22
 go_enter Tryz.func142,Tryz.ntmps142
 go_wp2_with fail
 go_region_held3 (fun W=>W.cell? ⟨b,0,none⟩=some (.int .i64 p.op)∧W.cell? ⟨b,1,none⟩=some (.pointer (some ⟨lb,0,none⟩))∧W.cell? ⟨lb,6,none⟩=some (.string (BS lt))∧W.cell? ⟨b,2,none⟩=some (.pointer (some ⟨rb,0,none⟩))∧W.cell? ⟨rb,6,none⟩=some (.string (BS rt))) (go_keep) (first|(go_at_call 192;refine (csign_any _ _).mono ?_;rintro e w1 ⟨rfl,hw1⟩;subst w1))
 all_goals (go_wp2_with fail;go_ret;exact ⟨by rw [q9 HR];rfl,(Below.refl _ _).drew⟩)
end
section
def unB (op:Int):Bool:=op==5||op==22||op==23
def qi5 (op:Int):Bool:=op==0||op==1||op==2||op==3||op==4
theorem spell_any (w:World) (b:Nat) (p:CP) (l r:Value) (h:SpA w b p l r) (lt rt:List UInt8) (zl:lt.length≤1000000000) (zr:rt.length≤1000000000)
  (hl:qi5 p.op=false→TextAt w l lt) (hr:qi5 p.op=false→unB p.op=false→TextAt w r rt) :
  Calls Tryz.prog 142 #[at0 b] w fun e w'=>e=.returned (.string (BS (y7 p lt rt)))∧Below w.heap.size w w':=by
 by_cases h0:p.op=0
 ·exact spell_0 w b p l r h lt rt h0
 by_cases h1:p.op=1
 ·exact spell_1 w b p l r h lt rt h1
 by_cases h2:p.op=2
 ·exact spell_2 w b p l r h lt rt h2
 by_cases h3:p.op=3
 ·exact spell_3 w b p l r h lt rt h3
 by_cases h4:p.op=4
 ·exact spell_4 w b p l r h lt rt h4
 have hL:=hl (by unfold qi5;simp [h0,h1,h2,h3,h4])
 by_cases h5:p.op=5
 ·exact spell_5 w b p l r h lt rt hL zl h5
 by_cases h23:p.op=23
 ·exact spell_23 w b p l r h lt rt hL zl h23
 by_cases h22:p.op=22
 ·exact spell_22 w b p l r h lt rt hL zl h22
 exact spell_bin w b p l r h lt rt hL zl (hr (by unfold qi5;simp [h0,h1,h2,h3,h4]) (by unfold unB;simp [h5,h22,h23])) zr h0 h1 h2 h3 h4 h5 h23 h22
def coV (p:CP) (l r:Value):Value:=.agg #[.int .i64 p.op,l,r,.int .i64 p.num,.string (BS p.str),.string (BS p.esc),.string ⟨#[]⟩]
theorem TextAt.below {w w':World} {v:Value} {t:List UInt8} (h:TextAt w v t) (hb:Below w.heap.size w w'):TextAt w' v t:=by
 obtain ⟨b,rfl,h1,h2⟩:=h
 exact ⟨b,rfl,Nat.lt_of_lt_of_le h1 hb.size,(hb.cell (p:=⟨b,6,none⟩) h1).trans h2⟩
theorem vb1 (w:World) (hL:LibOk w) (p:CP) (l r:Value) (lt rt:List UInt8) (hn:Rng p.num) (h4:p.str.length≤1000000000) (h5:p.esc.length≤1000000000) (zl:lt.length≤1000000000) (zr:rt.length≤1000000000)
  (hlp:∃a,l=.pointer a) (hrp:∃a,r=.pointer a)
  (hl:qi5 p.op=false→TextAt w l lt) (hr:qi5 p.op=false→unB p.op=false→TextAt w r rt) :
  Calls Tryz.prog 94 #[coV p l r] w fun e w'=>e=.returned (at0 w.heap.size)∧CellsC w.heap.size w'.heap.size w' w.heap.size p l r (y7 p lt rt)∧Below w.heap.size w w':=by
 have hbl:Below w.heap.size w (w.alloc (.cells #[.int .i64 p.op,l,r,.int .i64 p.num,.string (BS p.str),.string (BS p.esc),.string ⟨#[]⟩] 108)):=(Below.refl _ _).alloc (Nat.le_refl _) _
 have HS:=v7 (spell_any (w.alloc (.cells #[.int .i64 p.op,l,r,.int .i64 p.num,.string (BS p.str),.string (BS p.esc),.string ⟨#[]⟩] 108)) w.heap.size p l r
  ⟨hL.alloc _,by simp,by simp,by simp,by simp,by simp,by simp,by simp,hn,h4,h5⟩ lt rt zl zr (fun h=>(hl h).below hbl) (fun h h'=>(hr h h').below hbl))
 obtain ⟨la,rfl⟩:=hlp
 obtain ⟨ra,rfl⟩:=hrp
 generalize ht:y7 p lt rt=t
 rw [ht] at HS
 unfold at0 at HS
 clear hL hn h4 h5 zl zr hl hr ht
 unfold at0 coV
 go_enter Tryz.func94,Tryz.ntmps94
 go_wp2_with (go_at_call 142;refine (q9 HS).mono ?_;rintro e w1 ⟨rfl,hb1⟩;have hz1:w.heap.size<w1.heap.size:=(by have:=hb1.size;simp at this;omega);have g0:w1.cell? ⟨w.heap.size,0,none⟩=some (.int .i64 p.op):=((j6 hb1).1 _ 0 (by simp)).trans (by simp);have g1:w1.cell? ⟨w.heap.size,1,none⟩=some (.pointer la):=((j6 hb1).1 _ 1 (by simp)).trans (by simp);have g2:w1.cell? ⟨w.heap.size,2,none⟩=some (.pointer ra):=((j6 hb1).1 _ 2 (by simp)).trans (by simp);have g3:w1.cell? ⟨w.heap.size,3,none⟩=some (.int .i64 p.num):=((j6 hb1).1 _ 3 (by simp)).trans (by simp);have g4:w1.cell? ⟨w.heap.size,4,none⟩=some (.string (BS p.str)):=((j6 hb1).1 _ 4 (by simp)).trans (by simp);have g5:w1.cell? ⟨w.heap.size,5,none⟩=some (.string (BS p.esc)):=((j6 hb1).1 _ 5 (by simp)).trans (by simp);have g6:w1.cell? ⟨w.heap.size,6,none⟩=some (.string ⟨#[]⟩):=((j6 hb1).1 _ 6 (by simp)).trans (by simp);have z0:∀j,w1.frozen? ⟨w.heap.size,j,none⟩=false:=(fun j=>((j6 hb1).2 _ j (by simp)).trans (by simp));have hB1:=v7 (v8 hbl hb1);clear hb1)
 go_ret
 refine ⟨rfl,⟨Nat.le_refl _,by simpa using hz1,by simpa using hz1,by simp [go_sem,g0],by simp [go_sem,g1],by simp [go_sem,g2],by simp [go_sem,g3],by simp [go_sem,g4],by simp [go_sem,g5],by simp [go_sem,g6]⟩, ?_⟩
 exact (q9 hB1).setCell (by simp) _
end
section
theorem LibOk.drew {w:World} (h:LibOk w):LibOk w.drew:=h.below (Below.refl _ _).drew (Nat.le_refl _)
theorem vu0 {op:Int} (h1:qi5 op=false) (h2:unB op=false) (l r:List UInt8):y7 (qb1 op) l r=[40]++l++[32]++qm6 op++[32]++r++[41]:=by
 unfold qi5 at h1
 unfold unB at h2
 simp only [Bool.or_eq_false_iff] at h1 h2
 obtain ⟨⟨⟨⟨a,b⟩,c⟩,d⟩,e⟩:=h1
 obtain ⟨⟨f,g⟩,i⟩:=h2
 simp only [y7,qb1,a,b,c,d,e,f,g,i]
 rfl
theorem CoAt.two {B:Nat} {w0 w':World} {op:Int} {x y:Co} {vx vy:Value} (hB:B≤w0.heap.size) (hc:CellsC w0.heap.size w'.heap.size w' w0.heap.size (qb1 op) vx vy (y7 (qb1 op) (z9 x) (z9 y))) (hb:Below w0.heap.size w0 w') (hx:CoAt B w0.heap.size w0 vx x) (hy:CoAt B w0.heap.size w0 vy y) :
  CoAt B w'.heap.size w' (at0 w0.heap.size) (.bin (qb1 op) x y):=
 ⟨w0.heap.size,vx,vy,rfl,⟨hB,hc.hi,hc.within,hc.c0,hc.c1,hc.c2,hc.c3,hc.c4,hc.c5,hc.c6⟩,hx.below hb,hy.below hb⟩
theorem CoAt.ptr {B E:Nat} {w:World} {v:Value} {c:Co} (h:CoAt B E w v c):∃b,v=.pointer (some ⟨b,0,none⟩):=by
 obtain ⟨b,_,_,_,rfl,_⟩:=h.head
 exact ⟨b,rfl⟩
theorem vn8 (op:Int) {B:Nat} {w:World} (hB:B≤w.heap.size) (hL:LibOk w) {x y:Co} {bx by':Nat} (hx:CoAt B w.heap.size w (.pointer (some ⟨bx,0,none⟩)) x) (hy:CoAt B w.heap.size w (.pointer (some ⟨by',0,none⟩)) y) (zx:(z9 x).length≤1000000000) (zy:(z9 y).length≤1000000000) :
  Calls Tryz.prog 94 #[.agg #[.int .i64 op,.pointer (some ⟨bx,0,none⟩),.pointer (some ⟨by',0,none⟩),.int .i64 0,.string ⟨#[]⟩,.string ⟨#[]⟩,.string ⟨#[]⟩]] w fun e w'=>∃b,e=.returned (.pointer (some ⟨b,0,none⟩))∧CoAt B w'.heap.size w' (.pointer (some ⟨b,0,none⟩)) (.bin (qb1 op) x y)∧Below w.heap.size w w':=by
 have h:=vb1 w hL (qb1 op) (.pointer (some ⟨bx,0,none⟩)) (.pointer (some ⟨by',0,none⟩)) (z9 x) (z9 y) (show Rng 0 from ⟨by decide,by decide⟩) (Nat.zero_le _) (Nat.zero_le _) zx zy ⟨_,rfl⟩ ⟨_,rfl⟩ (fun _=>hx.text) (fun _ _=>hy.text)
 refine Calls.mono (show Calls Tryz.prog 94 #[.agg #[.int .i64 op,.pointer (some ⟨bx,0,none⟩),.pointer (some ⟨by',0,none⟩),.int .i64 0,.string ⟨#[]⟩,.string ⟨#[]⟩,.string ⟨#[]⟩]] w _ from h) ?_
 rintro e w' ⟨rfl,hc,hb⟩
 exact ⟨w.heap.size,rfl,CoAt.two hB hc hb hx hy,hb⟩
theorem qg5 (op:Int) {B:Nat} {w:World} (hB:B≤w.heap.size) (hL:LibOk w) {x y:Co} {vx vy:Value} (hx:CoAt B w.heap.size w vx x) (hy:CoAt B w.heap.size w vy y) (zx:(z9 x).length≤1000000000) (zy:(z9 y).length≤1000000000) :
  Calls Tryz.prog 90 #[.int .i64 op,vx,vy] w fun e w'=>∃b,e=.returned (.pointer (some ⟨b,0,none⟩))∧CoAt B w'.heap.size w' (.pointer (some ⟨b,0,none⟩)) (z8 op x y)∧Below w.heap.size w w':=by
 obtain ⟨bx,rfl⟩:=hx.ptr
 obtain ⟨by',rfl⟩:=hy.ptr
 obtain ⟨bx',ex,hxl,cx⟩:=hx.text
 obtain ⟨by2,ey,hyl,cy⟩:=hy.text
 obtain rfl:bx'=bx:=by injection ex with ex;injection ex with ex;injection ex with ex;exact ex.symm
 obtain rfl:by2=by':=by injection ey with ey;injection ey with ey;injection ey with ey;exact ey.symm
 have S1:Hid (∀w1,Below w.heap.size w w1→Calls Tryz.prog 94 #[.agg #[.int .i64 op,.pointer (some ⟨bx',0,none⟩),.pointer (some ⟨by2,0,none⟩),.int .i64 0,.string ⟨#[]⟩,.string ⟨#[]⟩,.string ⟨#[]⟩]] w1 fun e w'=>∃b,e=.returned (.pointer (some ⟨b,0,none⟩))∧CoAt B w'.heap.size w' (.pointer (some ⟨b,0,none⟩)) (.bin (qb1 op) x y)∧Below w1.heap.size w1 w'):=
  v7 (fun w1 hb=>vn8 op (Nat.le_trans hB hb.size) (hL.below hb (Nat.le_refl _)) (hx.below hb) (hy.below hb) zx zy)
 have S2:Hid (∀w1,Below w.heap.size w w1→Calls Tryz.prog 94 #[.agg #[.int .i64 op,.pointer (some ⟨by2,0,none⟩),.pointer (some ⟨bx',0,none⟩),.int .i64 0,.string ⟨#[]⟩,.string ⟨#[]⟩,.string ⟨#[]⟩]] w1 fun e w'=>∃b,e=.returned (.pointer (some ⟨b,0,none⟩))∧CoAt B w'.heap.size w' (.pointer (some ⟨b,0,none⟩)) (.bin (qb1 op) y x)∧Below w1.heap.size w1 w'):=
  v7 (fun w1 hb=>vn8 op (Nat.le_trans hB hb.size) (hL.below hb (Nat.le_refl _)) (hy.below hb) (hx.below hb) zy zx)
 have hlt:Op.bytesLess (BS (z9 y)).toList (BS (z9 x)).toList=Op.bytesLess (z9 y) (z9 x):=by rw [qn3,qn3]
 have DN:Hid (∀n,Below w.heap.size w (w.drewN n)):=v7 (fun n=>⟨rfl,rfl,rfl,Nat.le_refl _,fun _ _=>rfl⟩)
 unfold z8
 generalize Op.bytesLess (z9 y) (z9 x)=lt at *
 clear hx hy zx zy hL hB ex ey
 cases he:vv6 op with
 | false=>
  rw [Bool.false_and,if_neg (by decide)]
  have TE:Hid (∀w,Calls Tryz.prog 138 #[.int .i64 op] w fun e w'=>e=.returned (.bool false)∧w'=w):=v7 (fun w=>he ▸ qy6 op w)
  clear he
  go_enter Tryz.func90,Tryz.ntmps90
  go_wp2_with fail
  go_quiet ((go_at_call 138;exact Calls.quiet_of_same (q9 TE _)))
  go_wp2_with (go_at_call 94;refine (q9 S1 _ (q9 DN _)).mono ?_;rintro e w2 ⟨b,rfl,hc,hb⟩)
  go_ret
  exact ⟨b,rfl,hc,v8 (q9 DN _) hb⟩
 | true=>
  rw [Bool.true_and]
  have TE:Hid (∀w,Calls Tryz.prog 138 #[.int .i64 op] w fun e w'=>e=.returned (.bool true)∧w'=w):=v7 (fun w=>he ▸ qy6 op w)
  clear he
  cases lt with
  | false=>
   rw [if_neg (by decide)]
   go_enter Tryz.func90,Tryz.ntmps90
   go_wp2_with fail
   go_quiet ((go_at_call 138;exact Calls.quiet_of_same (q9 TE _)))
   go_wp2_with (go_at_call 94;refine (q9 S1 _ (q9 DN _)).mono ?_;rintro e w2 ⟨b,rfl,hc,hb⟩)
   go_ret
   exact ⟨b,rfl,hc,v8 (q9 DN _) hb⟩
  | true=>
   rw [if_pos rfl]
   go_enter Tryz.func90,Tryz.ntmps90
   go_wp2_with fail
   go_quiet ((go_at_call 138;exact Calls.quiet_of_same (q9 TE _)))
   go_wp2_with (go_at_call 94;refine (q9 S2 _ (q9 DN _)).mono ?_;rintro e w2 ⟨b,rfl,hc,hb⟩)
   go_ret
   exact ⟨b,rfl,hc,v8 (q9 DN _) hb⟩
end
section
def uC:Co→Nat
 | .leaf _=>1
 | .un _ x=>uC x
 | .bin p x y=>if p.op==6||p.op==7 then uC x+uC y else 1
theorem uC_pos:∀c,1≤uC c:=by
 intro c
 induction c with
 | leaf p=>exact Nat.le_refl _
 | un p x ih=>exact ih
 | bin p x y ihx ihy=>unfold uC;split<;>omega
theorem qk0 (op:Int) (x y:Co):uC (z8 op x y)=if op==6||op==7 then uC x+uC y else 1:=by
 unfold z8
 split
 ·show (if (op==6||op==7)=true then uC y+uC x else 1)=_
  rw [Nat.add_comm]
 ·rfl
theorem uC_not:∀c,uC (qh4 c)=uC c:=by
 intro c
 induction c with
 | leaf p=>unfold qh4;split;rfl;split<;>rfl
 | un p x ih=>unfold qh4;split<;>rfl
 | bin p x y ihx ihy=>
  unfold qh4
  by_cases h6:(p.op==6)=true
  ·rw [if_pos h6,qk0,ihx,ihy]
   show (if ((7:Int)==6||(7:Int)==7)=true then _ else _)=if (p.op==6||p.op==7)=true then _ else _
   rw [h6];rfl
  rw [if_neg h6]
  by_cases h7:(p.op==7)=true
  ·rw [if_pos h7,qk0,ihx,ihy]
   show (if ((6:Int)==6||(6:Int)==7)=true then _ else _)=if (p.op==6||p.op==7)=true then _ else _
   rw [h7,Bool.or_true];rfl
  rw [if_neg h7]
  have hu:uC (.bin p x y)=1:=by
   show (if (p.op==6||p.op==7)=true then _ else _)=1
   rw [if_neg]
   rw [Bool.eq_false_iff.2 h6,Bool.eq_false_iff.2 h7];decide
  by_cases h10:(p.op==10)=true
  ·rw [if_pos h10,qk0,hu];rfl
  rw [if_neg h10]
  by_cases h11:(p.op==11)=true
  ·rw [if_pos h11,qk0,hu];rfl
  rw [if_neg h11]
  rfl
theorem y9 (op:Int) (h1:qi5 op=false) (h2:unB op=false) (x y:Co):(z9 (z8 op x y)).length=(z9 x).length+(z9 y).length+4+(qm6 op).length:=by
 unfold z8
 split
 ·show (y7 (qb1 op) (z9 y) (z9 x)).length=_
  rw [vu0 h1 h2];simp;omega
 ·show (y7 (qb1 op) (z9 x) (z9 y)).length=_
  rw [vu0 h1 h2];simp;omega
def binB (op:Int):Bool:=!qi5 op&&!unB op
theorem qw1 {p:CP} (h:binB p.op=true) (x y:Co):(z9 (.bin p x y)).length=(z9 x).length+(z9 y).length+4+(qm6 p.op).length:=by
 show (y7 p (z9 x) (z9 y)).length=_
 unfold binB qi5 unB at h
 simp only [Bool.and_eq_true,Bool.not_eq_true',Bool.or_eq_false_iff] at h
 obtain ⟨⟨⟨⟨⟨a,b⟩,c⟩,d⟩,e⟩,⟨f,g⟩,i⟩:=h
 simp only [y7,a,b,c,d,e,f,g,i]
 simp
 omega
def WfC:Co→Prop
 | .leaf p=>qi5 p.op=true
 | .un p x=>unB p.op=true∧WfC x
 | .bin p x y=>binB p.op=true∧WfC x∧WfC y
theorem qg9 {op:Int} (h:binB op=true) {x y:Co} (hx:WfC x) (hy:WfC y):WfC (z8 op x y):=by
 unfold z8
 split
 ·exact ⟨h,hy,hx⟩
 ·exact ⟨h,hx,hy⟩
theorem wfC_not:∀c,WfC c→WfC (qh4 c):=by
 intro c
 induction c with
 | leaf p=>intro h;unfold qh4;split;exact rfl;split;exact rfl;exact ⟨rfl,h⟩
 | un p x ih=>intro h;unfold qh4;split;exact h.2;exact ⟨rfl,h⟩
 | bin p x y ihx ihy=>
  intro h
  unfold qh4
  split
  ·exact qg9 rfl (ihx h.2.1) (ihy h.2.2)
  split
  ·exact qg9 rfl (ihx h.2.1) (ihy h.2.2)
  split
  ·exact qg9 rfl h.2.2 h.2.1
  split
  ·exact qg9 rfl h.2.2 h.2.1
  ·exact ⟨rfl,h⟩
theorem vf7 (c:Co):(z9 (.un (qb1 5) c)).length=(z9 c).length+6:=by
 show (y7 (qb1 5) (z9 c) []).length=_
 simp [y7,qb1]
theorem qq5:∀c,WfC c→(z9 (qh4 c)).length+1≤(z9 c).length+7 * uC c:=by
 intro c
 induction c with
 | leaf p=>
  intro _
  unfold qh4
  split
  ·rename_i h;have:(z9 (.leaf p)).length=4:=by show (y7 p [] []).length=4;rw [y7,eq_of_beq h];rfl
   show 5+1≤_+7 * 1;omega
  split
  ·show 4+1≤_+7 * 1;omega
  ·rw [vf7];show _≤_+7 * 1;omega
 | un p x ih=>
  intro hw
  have hp:=uC_pos x
  unfold qh4
  split
  ·rename_i h
   simp only [Bool.and_eq_true,beq_iff_eq] at h
   have:(z9 (.un p x)).length=(z9 x).length+6:=by show (y7 p (z9 x) []).length=_;simp [y7,h.1]
   show _≤_+7 * uC x;omega
  ·rw [vf7];show _≤_+7 * uC x;omega
 | bin p x y ihx ihy=>
  intro hw
  have hx:=ihx hw.2.1
  have hy:=ihy hw.2.2
  have hs:=qw1 hw.1 x y
  have hsg:=vd4 p.op
  unfold qh4
  by_cases h6:(p.op==6)=true
  ·rw [if_pos h6,y9 7 rfl rfl,hs]
   have:uC (.bin p x y)=uC x+uC y:=by show (if (p.op==6||p.op==7)=true then _ else _)=_;rw [h6];rfl
   rw [this]
   have:(qm6 p.op).length=3:=by rw [eq_of_beq h6];rfl
   show _+_+4+2+1≤_;omega
  rw [if_neg h6]
  by_cases h7:(p.op==7)=true
  ·rw [if_pos h7,y9 6 rfl rfl,hs]
   have:uC (.bin p x y)=uC x+uC y:=by show (if (p.op==6||p.op==7)=true then _ else _)=_;rw [h7,Bool.or_true];rfl
   rw [this]
   have:(qm6 p.op).length=2:=by rw [eq_of_beq h7];rfl
   show _+_+4+3+1≤_;omega
  rw [if_neg h7]
  have hu:uC (.bin p x y)=1:=by
   show (if (p.op==6||p.op==7)=true then _ else _)=1
   rw [if_neg]
   rw [Bool.eq_false_iff.2 h6,Bool.eq_false_iff.2 h7];decide
  rw [hu]
  by_cases h10:(p.op==10)=true
  ·rw [if_pos h10,y9 11 rfl rfl,hs]
   show _+_+4+2+1≤_;omega
  rw [if_neg h10]
  by_cases h11:(p.op==11)=true
  ·rw [if_pos h11,y9 10 rfl rfl,hs]
   show _+_+4+1+1≤_;omega
  rw [if_neg h11,vf7];omega
def vb6 (c:Co):Prop:=∀(B:Nat) (w:World) (v:Value),B≤w.heap.size→LibOk w→CoAt B w.heap.size w v c →
 Calls Tryz.prog 92 #[v] w fun e w'=>∃b,e=.returned (.pointer (some ⟨b,0,none⟩))∧CoAt B w'.heap.size w' (.pointer (some ⟨b,0,none⟩)) (qh4 c)∧Below w.heap.size w w'
theorem qp0 (p:CP) (hp:qi5 p.op=true) (hn:Rng p.num) (h4:p.str.length≤1000000000) (h5:p.esc.length≤1000000000) {B:Nat} {w:World} (hB:B≤w.heap.size) (hL:LibOk w) :
  Calls Tryz.prog 94 #[.agg #[.int .i64 p.op,.pointer none,.pointer none,.int .i64 p.num,.string (BS p.str),.string (BS p.esc),.string ⟨#[]⟩]] w fun e w'=>∃b,e=.returned (.pointer (some ⟨b,0,none⟩))∧CoAt B w'.heap.size w' (.pointer (some ⟨b,0,none⟩)) (.leaf p)∧Below w.heap.size w w':=by
 refine Calls.mono (show Calls Tryz.prog 94 #[.agg #[.int .i64 p.op,.pointer none,.pointer none,.int .i64 p.num,.string (BS p.str),.string (BS p.esc),.string ⟨#[]⟩]] w _ from vb1 w hL p (.pointer none) (.pointer none) [] [] hn h4 h5 (Nat.zero_le _) (Nat.zero_le _) ⟨_,rfl⟩ ⟨_,rfl⟩ (fun h=>by rw [hp] at h;cases h) (fun h=>by rw [hp] at h;cases h)) ?_
 rintro e w' ⟨rfl,hc,hb⟩
 exact ⟨w.heap.size,rfl,⟨w.heap.size,rfl,⟨hB,hc.hi,hc.within,hc.c0,hc.c1,hc.c2,hc.c3,hc.c4,hc.c5,hc.c6⟩⟩,hb⟩
theorem vb2 (p:CP) (hp:unB p.op=true) (hn:Rng p.num) (h4:p.str.length≤1000000000) (h5:p.esc.length≤1000000000) {B:Nat} {w:World} (hB:B≤w.heap.size) (hL:LibOk w) {x:Co} {bx:Nat} (hx:CoAt B w.heap.size w (.pointer (some ⟨bx,0,none⟩)) x) (zx:(z9 x).length≤1000000000) :
  Calls Tryz.prog 94 #[.agg #[.int .i64 p.op,.pointer (some ⟨bx,0,none⟩),.pointer none,.int .i64 p.num,.string (BS p.str),.string (BS p.esc),.string ⟨#[]⟩]] w fun e w'=>∃b,e=.returned (.pointer (some ⟨b,0,none⟩))∧CoAt B w'.heap.size w' (.pointer (some ⟨b,0,none⟩)) (.un p x)∧Below w.heap.size w w':=by
 refine Calls.mono (show Calls Tryz.prog 94 #[.agg #[.int .i64 p.op,.pointer (some ⟨bx,0,none⟩),.pointer none,.int .i64 p.num,.string (BS p.str),.string (BS p.esc),.string ⟨#[]⟩]] w _ from vb1 w hL p (.pointer (some ⟨bx,0,none⟩)) (.pointer none) (z9 x) [] hn h4 h5 zx (Nat.zero_le _) ⟨_,rfl⟩ ⟨_,rfl⟩ (fun _=>hx.text) (fun _ h=>by rw [hp] at h;cases h)) ?_
 rintro e w' ⟨rfl,hc,hb⟩
 exact ⟨w.heap.size,rfl,⟨w.heap.size,_,rfl,⟨hB,hc.hi,hc.within,hc.c0,hc.c1,hc.c2,hc.c3,hc.c4,hc.c5,hc.c6⟩,hx.below hb⟩,hb⟩
end
section
theorem dem_true {want pl:Int}:∀{rs:List CRes} {fit:Bool},dem want pl rs fit=none→fit=true:=by
 intro rs
 induction rs with
 | nil=>intro fit h;cases fit;cases h;rfl
 | cons r t ih=>
  intro fit h
  cases r with
  | err q=>cases h
  | ok c=>
   have:=ih (fit:=fit&&(c==want||c==0)) h
   rw [Bool.and_eq_true] at this
   exact this.1
theorem dem_none {want pl:Int}:∀{rs:List CRes} {fit:Bool},dem want pl rs fit=none→∀r∈rs,∃c,r=.ok c∧(c=want∨c=0):=by
 intro rs
 induction rs with
 | nil=>intro fit _ r hr;cases hr
 | cons r t ih=>
  intro fit h
  cases r with
  | err q=>cases h
  | ok c=>
   have h':dem want pl t (fit&&(c==want||c==0))=none:=h
   have hf:=dem_true h'
   rw [Bool.and_eq_true,Bool.or_eq_true,beq_iff_eq,beq_iff_eq] at hf
   intro r hr
   rcases List.mem_cons.1 hr with rfl|hr
   ·exact ⟨c,rfl,hf.2⟩
   ·exact ih h' r hr
theorem qp7 {want pl c d:Int} {rs:List CRes} (h:vg0 want pl c rs=.ok d):∀r∈rs,∃c,r=.ok c∧(c=want∨c=0):=by
 unfold vg0 at h
 split at h
 ·rename_i hd;exact dem_none hd
 ·cases h
theorem vu8 {pl c:Int} {a b:CRes} (h:qk4 pl a b=.ok c):(∃c,a=.ok c)∧∃c,b=.ok c:=by
 cases a with
 | err q=>cases h
 | ok x=>
  cases b with
  | err q=>cases h
  | ok y=>exact ⟨⟨x,rfl⟩,⟨y,rfl⟩⟩
def ArA:Ast→Prop
 | .leaf p=>p.op=0∨p.op=1
 | .un p x=>(p.op=14∨p.op=15)∧ArA x
 | .bin p x y=>16≤p.op∧p.op≤19∧ArA x∧ArA y
 | .tri _ _ _ _=>False
theorem vi8:∀t c,ShA t→qa1 t=.ok c→(c=1∨c=0)→ArA t:=by
 intro t
 induction t with
 | leaf p=>
  intro c hs hc h
  have hc:qt3 p.op p.place []=.ok c:=hc
  have hs:0≤p.op∧p.op≤4:=hs
  rcases (show p.op=0∨p.op=1∨p.op=2∨p.op=3∨p.op=4 by omega) with e|e|e|e|e
  ·exact .inl e
  ·exact .inr e
  all_goals (rw [e] at hc;injection hc with hc;omega)
 | un p x ih=>
  intro c hs hc h
  have hc:qt3 p.op p.place [qa1 x]=.ok c:=hc
  rcases hs.1 with e|e|e|e|e|e
  ·rw [e] at hc
   have hc:vg0 3 p.place 3 [qa1 x]=.ok c:=hc
   exfalso
   unfold vg0 at hc
   split at hc
   ·injection hc with hc;omega
   ·cases hc
  ·rw [e] at hc
   obtain ⟨d,h1,h2⟩:=qp7 (show vg0 1 p.place 1 [qa1 x]=.ok c from hc) (qa1 x) (by simp)
   exact ⟨.inl e,ih d hs.2.2.2 h1 h2⟩
  ·rw [e] at hc
   obtain ⟨d,h1,h2⟩:=qp7 (show vg0 1 p.place 1 [qa1 x]=.ok c from hc) (qa1 x) (by simp)
   exact ⟨.inr e,ih d hs.2.2.2 h1 h2⟩
  all_goals (rw [e] at hc;injection hc with hc;omega)
 | bin p x y ihx ihy=>
  intro c hs hc h
  have hc:qt3 p.op p.place [qa1 x,qa1 y]=.ok c:=hc
  have d3:∀w,vg0 w p.place 3 [qa1 x,qa1 y]=.ok c→False:=fun w hc=>by
   unfold vg0 at hc
   split at hc
   ·injection hc with hc;omega
   ·cases hc
  have a3:qk4 p.place (qa1 x) (qa1 y)=.ok c→False:=fun hc=>by
   obtain ⟨⟨a,ea⟩,b,eb⟩:=vu8 hc
   rw [ea,eb] at hc
   have hc:(if (a != b&&a != 0&&b != 0)=true then CRes.err p.place else CRes.ok 3)=.ok c:=hc
   split at hc
   ·cases hc
   ·injection hc with hc;omega
  have d1:vg0 1 p.place 1 [qa1 x,qa1 y]=.ok c→ArA x∧ArA y:=fun hc=>by
   obtain ⟨d,h1,h2⟩:=qp7 hc (qa1 x) (by simp)
   obtain ⟨e,h3,h4⟩:=qp7 hc (qa1 y) (by simp)
   exact ⟨ihx d hs.2.1 h1 h2,ihy e hs.2.2 h3 h4⟩
  rcases (show p.op=6∨p.op=7∨p.op=8∨p.op=9∨p.op=10∨p.op=11∨p.op=12∨p.op=13∨p.op=16∨p.op=17∨p.op=18∨p.op=19 by have:=hs.1;omega) with e|e|e|e|e|e|e|e|e|e|e|e
  ·rw [e] at hc;exact absurd hc (d3 3)
  ·rw [e] at hc;exact absurd hc (d3 3)
  ·rw [e] at hc;exact absurd hc a3
  ·rw [e] at hc;exact absurd hc a3
  ·rw [e] at hc;exact absurd hc (d3 1)
  ·rw [e] at hc;exact absurd hc (d3 1)
  ·rw [e] at hc;exact absurd hc (d3 1)
  ·rw [e] at hc;exact absurd hc (d3 1)
  all_goals (rw [e] at hc;exact ⟨by omega,by omega,(d1 hc).1,(d1 hc).2⟩)
 | tri p x y z ihx ihy ihz=>
  intro c hs hc h
  have hc:qt3 p.op p.place [qa1 x,qa1 y,qa1 z]=.ok c:=hc
  rw [hs.1] at hc
  have hc:vg0 1 p.place 3 [qa1 x,qa1 y,qa1 z]=.ok c:=hc
  exfalso
  unfold vg0 at hc
  split at hc
  ·injection hc with hc;omega
  ·cases hc
theorem vi0 (p:CP) (hs:p.str.length≤200) (hn:Rng p.num) (ho:qi5 p.op=true):(z9 (.leaf p)).length≤402:=by
 show (y7 p [] []).length≤402
 have hq:=vm5 p.str
 have hi:=Lib.itoa_length_le p.num hn.1 hn.2
 unfold qi5 at ho
 simp only [Bool.or_eq_true,beq_iff_eq] at ho
 unfold y7
 rcases ho with (((e|e)|e)|e)|e
 ·rw [e];show p.str.length≤402;omega
 ·rw [e];show (Lib.itoa p.num).length≤402;omega
 ·rw [e];show (qL p.str).length≤402;omega
 ·rw [e];show 4≤402;omega
 ·rw [e];show 5≤402;omega
theorem vi1:(z9 (vq4 0)).length≤21:=Lib.itoa_length_le 0 (by decide) (by decide)
theorem ar_len:∀t,ArA t→vg7 t→vh1 t→(z9 (j7 t)).length≤500 * ndA t:=by
 intro t
 induction t with
 | leaf p=>
  intro ha hb hn
  have:=vi0 (vb4 p) hb.1 hn (by unfold qi5;rcases ha with e|e<;>simp [vb4,e])
  show (z9 (.leaf (vb4 p))).length≤500 * 1
  omega
 | un p x ih=>
  intro ha hb hn
  have h:=ih ha.2 hb.2 hn.2
  have hz:(z9 (vq4 0)).length≤21:=vi1
  have hnd:ndA (.un p x)=1+p.texts.length+ndA x:=rfl
  rcases ha.1 with e|e
  ·have:j7 (.un p x)=z8 16 (vq4 0) (j7 x):=by rw [j7,e];rfl
   rw [this,y9 16 rfl rfl,hnd]
   have:(qm6 16).length=1:=rfl
   omega
  ·have:j7 (.un p x)=z8 17 (vq4 0) (j7 x):=by rw [j7,e];rfl
   rw [this,y9 17 rfl rfl,hnd]
   have:(qm6 17).length=1:=rfl
   omega
 | bin p x y ihx ihy=>
  intro ha hb hn
  obtain ⟨h1,h2,ax,ay⟩:=ha
  have hx:=ihx ax hb.2.1 hn.2.1
  have hy:=ihy ay hb.2.2 hn.2.2
  have hnd:ndA (.bin p x y)=1+ndA x+ndA y:=rfl
  have hsg:=vd4 p.op
  have:j7 (.bin p x y)=z8 p.op (j7 x) (j7 y):=by
   rw [j7,if_neg (by simp;omega),if_neg (by simp;omega),if_neg (by simp;omega)]
  rw [this,y9 p.op (by unfold qi5;simp;omega) (by unfold unB;simp;omega),hnd]
  omega
 | tri p x y z ihx ihy ihz=>intro ha;exact absurd ha id
end
section
theorem jk0 {zs:List (List UInt8)} {x:List UInt8} (h:x∈Lib.compact zs):x∈zs:=by
 unfold Lib.compact Lib.compactUpTo at h
 obtain ⟨i,hi,rfl⟩:=List.mem_map.1 h
 have hi:=List.mem_range.1 (List.mem_filter.1 hi).1
 have:zs.toArray[i]! = zs[i]:=by simp [hi]
 rw [this]
 exact List.getElem_mem _
theorem vj3 (zs:List (List UInt8)):(Lib.compact zs).length≤zs.length:=by
 unfold Lib.compact Lib.compactUpTo
 rw [List.length_map]
 exact Nat.le_trans (List.length_filter_le _ _) (by rw [List.length_range];exact Nat.le_refl _)
theorem jv2 {zs:List (List UInt8)} (h:zs≠[]):Lib.compact zs≠[]:=by
 cases zs with
 | nil=>exact absurd rfl h
 | cons a r=>
  intro e
  unfold Lib.compact Lib.compactUpTo at e
  rw [List.map_eq_nil_iff] at e
  have:0∈(List.range (a::r).length).filter (Lib.keeps (a::r).toArray):=List.mem_filter.2 ⟨List.mem_range.2 (by simp),Lib.keeps_lt_one _ 0 (by decide)⟩
  rw [e] at this
  cases this
theorem vn6 {ts:List (List UInt8)} {x:List UInt8} (h:x∈qs1 ts):x∈ts:=by
 unfold qs1 at h
 exact (List.mem_mergeSort).1 (jk0 h)
theorem je1 (ts:List (List UInt8)):(qs1 ts).length≤ts.length:=by
 unfold qs1
 exact Nat.le_trans (vj3 _) (by rw [List.length_mergeSort];exact Nat.le_refl _)
theorem jt3 {ts:List (List UInt8)} (h:ts≠[]):qs1 ts≠[]:=by
 unfold qs1
 refine jv2 (fun e=>h ?_)
 have:=congrArg List.length e
 rw [List.length_mergeSort] at this
 exact List.eq_nil_of_length_eq_zero this
theorem qy7 (t:List UInt8) (h:t.length≤200):(z9 (qq6 t)).length≤402:=by
 show (qL t).length≤402
 have:=vm5 t
 omega
theorem jc8 (x:Co):∀(r:List (List UInt8)) (f:Co),(∀t∈r,t.length≤200)→(z9 (qx3 x f r)).length≤(z9 f).length+r.length * ((z9 x).length+420):=by
 intro r
 induction r with
 | nil=>intro f _;show (z9 f).length≤_;omega
 | cons t r ih=>
  intro f h
  have h1:=ih (z8 7 f (z8 8 x (qq6 t))) (fun u hu=>h u (List.mem_cons_of_mem _ hu))
  rw [y9 7 rfl rfl,y9 8 rfl rfl] at h1
  have h2:=qy7 t (h t List.mem_cons_self)
  have e7:(qm6 7).length=2:=rfl
  have e8:(qm6 8).length=1:=rfl
  show (z9 (qx3 x (z8 7 f (z8 8 x (qq6 t))) r)).length≤_
  rw [List.length_cons,Nat.succ_mul]
  omega
theorem orAll_u (x:Co):∀(r:List (List UInt8)) (f:Co),uC (qx3 x f r)=uC f+r.length:=by
 intro r
 induction r with
 | nil=>intro f;rfl
 | cons t r ih=>
  intro f
  show uC (qx3 x (z8 7 f (z8 8 x (qq6 t))) r)=_
  rw [ih,qk0,qk0]
  show uC f+1+r.length=_
  rw [List.length_cons];omega
theorem orAll_wf {x:Co} (hx:WfC x):∀(r:List (List UInt8)) (f:Co),WfC f→WfC (qx3 x f r):=by
 intro r
 induction r with
 | nil=>intro f h;exact h
 | cons t r ih=>intro f h;exact ih _ (qg9 rfl h (qg9 rfl hx rfl))
theorem qy0 {x:Ast} (hs:ShA x) (h:opA x=0):∃q,x=.leaf q∧q.op=0:=by
 cases x with
 | leaf q=>exact ⟨q,rfl,h⟩
 | un p y=>have:=hs.1;have h:p.op=0:=h;omega
 | bin p y z=>have:=hs.1;have h:p.op=0:=h;omega
 | tri p y z u=>have:=hs.1;have h:p.op=0:=h;omega
theorem sq_add (a b:Nat) (k:Nat) (hk:k≤3000):3000 * (a * a)+3000 * (b * b)+k≤3000 * ((1+a+b) * (1+a+b)):=by
 have:(1+a+b) * (1+a+b)=a * a+b * b+2 * (a * b)+2 * a+2 * b+1:=by
  simp only [Nat.add_mul,Nat.mul_add,Nat.one_mul,Nat.mul_one]
  have:=Nat.mul_comm b a
  omega
 rw [this]
 omega
theorem je2 (a m:Nat) (k:Nat) (hk:k≤3000+6000 * a):3000 * (a * a)+k≤3000 * ((1+m+a) * (1+m+a)):=by
 have h1:(1+a) * (1+a)≤(1+m+a) * (1+m+a):=Nat.mul_le_mul (by omega) (by omega)
 have h2:(1+a) * (1+a)=a * a+2 * a+1:=by
  simp only [Nat.add_mul,Nat.mul_add,Nat.one_mul,Nat.mul_one]
  omega
 omega
structure Gd (t:Ast):Prop where
 len:(z9 (j7 t)).length≤3000 * (ndA t * ndA t)
 un:uC (j7 t)≤ndA t
 wf:WfC (j7 t)
theorem nd_pos:∀t,1≤ndA t:=by
 intro t
 cases t<;>(unfold ndA;omega)
def GdA:Ast→Prop
 | .leaf p=>Gd (.leaf p)
 | .un p x=>Gd (.un p x)∧GdA x
 | .bin p x y=>Gd (.bin p x y)∧GdA x∧GdA y
 | .tri p x y z=>Gd (.tri p x y z)∧GdA x∧GdA y∧GdA z
theorem GdA.gd {t:Ast} (h:GdA t):Gd t:=by
 cases t with
 | leaf p=>exact h
 | un p x=>exact h.1
 | bin p x y=>exact h.1
 | tri p x y z=>exact h.1
theorem gd_leaf (p:Pay) (hs:ShA (.leaf p)) (hb:vg7 (.leaf p)) (hn:vh1 (.leaf p)):Gd (.leaf p):=by
 have hl:qi5 (vb4 p).op=true:=by
  have hs:0≤p.op∧p.op≤4:=hs
  unfold qi5 vb4
  simp only [Bool.or_eq_true,beq_iff_eq]
  omega
 refine ⟨?_,Nat.le_refl _,hl⟩
 have:=vi0 (vb4 p) hb.1 hn hl
 show (z9 (.leaf (vb4 p))).length≤3000 * (1 * 1)
 omega
theorem ji6 {op:Int} (hop:binB op=true) {p:Pay} {x y:Ast} (hx:Gd x) (hy:Gd y) (u v:Co) (hu:(u=j7 x∧v=j7 y)∨(u=j7 y∧v=j7 x)) (he:j7 (.bin p x y)=z8 op u v):Gd (.bin p x y):=by
 have h12:qi5 op=false∧unB op=false:=by
  unfold binB at hop
  simpa using hop
 have hl:(z9 u).length+(z9 v).length=(z9 (j7 x)).length+(z9 (j7 y)).length:=by rcases hu with ⟨rfl,rfl⟩|⟨rfl,rfl⟩<;>omega
 have hc:uC u+uC v=uC (j7 x)+uC (j7 y):=by rcases hu with ⟨rfl,rfl⟩|⟨rfl,rfl⟩<;>omega
 have hw:WfC u∧WfC v:=by
  rcases hu with ⟨rfl,rfl⟩|⟨rfl,rfl⟩
  ·exact ⟨hx.wf,hy.wf⟩
  ·exact ⟨hy.wf,hx.wf⟩
 have hsg:=vd4 op
 have h1:=hx.len
 have h2:=hy.len
 have h3:=hx.un
 have h4:=hy.un
 have hnd:ndA (.bin p x y)=1+ndA x+ndA y:=rfl
 refine ⟨?_, ?_, ?_⟩
 ·rw [he,y9 op h12.1 h12.2,hnd]
  have:=sq_add (ndA x) (ndA y) 7 (by decide)
  omega
 ·rw [he,qk0,hnd]
  split<;>omega
 ·rw [he];exact qg9 hop hw.1 hw.2
theorem gd_every:∀t,ShA t→vg7 t→vh1 t→BqA t→(∃c,qa1 t=.ok c)→GdA t:=by
 intro t
 induction t with
 | leaf p=>intro hs hb hn _ _;exact gd_leaf p hs hb hn
 | un p x ih=>
  intro hs hb hn hq hc
  obtain ⟨c,hc⟩:=hc
  have hc:qt3 p.op p.place [qa1 x]=.ok c:=hc
  have hcx:∃d,qa1 x=.ok d:=by
   rcases hs.1 with e|e|e|e|e|e
   ·rw [e] at hc
    obtain ⟨d,h1,_⟩:=qp7 (show vg0 3 p.place 3 [qa1 x]=.ok c from hc) (qa1 x) (by simp)
    exact ⟨d,h1⟩
   ·rw [e] at hc
    obtain ⟨d,h1,_⟩:=qp7 (show vg0 1 p.place 1 [qa1 x]=.ok c from hc) (qa1 x) (by simp)
    exact ⟨d,h1⟩
   ·rw [e] at hc
    obtain ⟨d,h1,_⟩:=qp7 (show vg0 1 p.place 1 [qa1 x]=.ok c from hc) (qa1 x) (by simp)
    exact ⟨d,h1⟩
   all_goals
    obtain ⟨q,rfl,hq0⟩:=qy0 hs.2.2.2 (hs.2.2.1 (by omega))
    exact ⟨0,by show qt3 q.op q.place []=.ok 0;rw [hq0];rfl⟩
  have hx:=ih hs.2.2.2 hb.2 hn.2 hq.2 hcx
  refine ⟨?_,hx⟩
  have gx:=hx.gd
  have h1:=gx.len
  have h2:=gx.un
  have h3:=nd_pos x
  have hnd:ndA (.un p x)=1+p.texts.length+ndA x:=rfl
  have hz:=vi1
  rcases hs.1 with e|e|e|e|e|e
  ·have he:j7 (.un p x)=qh4 (j7 x):=by rw [j7,e];rfl
   have hl:=qq5 (j7 x) gx.wf
   refine ⟨?_,by rw [he,uC_not,hnd];omega,by rw [he];exact wfC_not _ gx.wf⟩
   rw [he,hnd]
   have:=je2 (ndA x) p.texts.length (7 * ndA x) (by omega)
   omega
  ·have he:j7 (.un p x)=z8 16 (vq4 0) (j7 x):=by rw [j7,e];rfl
   have e16:(qm6 16).length=1:=rfl
   refine ⟨?_,by rw [he,qk0,hnd];show 1≤_;omega,by rw [he];exact qg9 rfl rfl gx.wf⟩
   rw [he,y9 16 rfl rfl,hnd]
   have:=je2 (ndA x) p.texts.length 30 (by omega)
   omega
  ·have he:j7 (.un p x)=z8 17 (vq4 0) (j7 x):=by rw [j7,e];rfl
   have e17:(qm6 17).length=1:=rfl
   refine ⟨?_,by rw [he,qk0,hnd];show 1≤_;omega,by rw [he];exact qg9 rfl rfl gx.wf⟩
   rw [he,y9 17 rfl rfl,hnd]
   have:=je2 (ndA x) p.texts.length 30 (by omega)
   omega
  ·have he:j7 (.un p x)=qs6 (j7 x) p.texts:=by rw [j7,e];rfl
   have hne:=jt3 (hs.2.1 e)
   have hsl:=je1 p.texts
   have hm:∀u∈qs1 p.texts,u.length≤200:=fun u hu=>hq.1.2 u (vn6 hu)
   obtain ⟨q,rfl,hq0⟩:=qy0 hs.2.2.2 (hs.2.2.1 (by omega))
   have hlx:(z9 (j7 (.leaf q))).length≤402:=vi0 (vb4 q) hb.2.1 hn.2 (by unfold qi5;simp [vb4,hq0])
   cases hsort:qs1 p.texts with
   | nil=>exact absurd hsort hne
   | cons u r=>
    rw [hsort] at hm hsl
    have he2:j7 (.un p (.leaf q))=qx3 (j7 (.leaf q)) (z8 8 (j7 (.leaf q)) (qq6 u)) r:=by rw [he,qs6,hsort]
    have hol:=jc8 (j7 (.leaf q)) r (z8 8 (j7 (.leaf q)) (qq6 u)) (fun y hy=>hm y (List.mem_cons_of_mem _ hy))
    rw [y9 8 rfl rfl] at hol
    have htl:=qy7 u (hm u List.mem_cons_self)
    have e8:(qm6 8).length=1:=rfl
    rw [List.length_cons] at hsl
    refine ⟨?_, ?_, ?_⟩
    ·rw [he2,hnd]
     have hmul:r.length * ((z9 (j7 (.leaf q))).length+420)≤r.length * 822:=Nat.mul_le_mul_left _ (by omega)
     have hsq:(1+p.texts.length+ndA (.leaf q)) * 1≤(1+p.texts.length+ndA (.leaf q)) * (1+p.texts.length+ndA (.leaf q)):=Nat.mul_le_mul_left _ (by omega)
     omega
    ·rw [he2,orAll_u,qk0,hnd]
     show 1+_≤_
     omega
    ·rw [he2]
     exact orAll_wf gx.wf _ _ (qg9 rfl gx.wf rfl)
  ·have he:j7 (.un p x)=.un (vb4 p) (j7 x):=by rw [j7,e];rfl
   have hl:(z9 (.un (vb4 p) (j7 x))).length≤(z9 (j7 x)).length+830:=by
    show (y7 (vb4 p) (z9 (j7 x)) []).length≤_
    have a:=vm5 p.str
    have b:=vm5 p.esc
    have c1:=hb.1.1
    have c2:=hq.1.1
    have d:(escT p.esc).length≤8+(qL p.esc).length:=by unfold escT;split<;>simp<;>omega
    rw [y7]
    simp only [vb4,e]
    simp
    omega
   refine ⟨?_,by rw [he,hnd];show uC (j7 x)≤_;omega,by rw [he];exact ⟨by unfold unB;simp [vb4,e],gx.wf⟩⟩
   rw [he,hnd]
   have:=je2 (ndA x) p.texts.length 830 (by omega)
   omega
  ·have he:j7 (.un p x)=.un (vb4 p) (j7 x):=by rw [j7,e];rfl
   have hl:(z9 (.un (vb4 p) (j7 x))).length=(z9 (j7 x)).length+10:=by
    show (y7 (vb4 p) (z9 (j7 x)) []).length=_
    rw [y7]
    simp only [vb4,e]
    simp
   refine ⟨?_,by rw [he,hnd];show uC (j7 x)≤_;omega,by rw [he];exact ⟨by unfold unB;simp [vb4,e],gx.wf⟩⟩
   rw [he,hnd]
   have:=je2 (ndA x) p.texts.length 10 (by omega)
   omega
 | bin p x y ihx ihy=>
  intro hs hb hn hq hc
  obtain ⟨c,hc⟩:=hc
  have hc:qt3 p.op p.place [qa1 x,qa1 y]=.ok c:=hc
  have hcs:(∃d,qa1 x=.ok d)∧∃d,qa1 y=.ok d:=by
   have dm:∀w k,vg0 w p.place k [qa1 x,qa1 y]=.ok c→(∃d,qa1 x=.ok d)∧∃d,qa1 y=.ok d:=fun w k h=>by
    obtain ⟨d,h1,_⟩:=qp7 h (qa1 x) (by simp)
    obtain ⟨e,h3,_⟩:=qp7 h (qa1 y) (by simp)
    exact ⟨⟨d,h1⟩,⟨e,h3⟩⟩
   rcases (show p.op=6∨p.op=7∨p.op=8∨p.op=9∨p.op=10∨p.op=11∨p.op=12∨p.op=13∨p.op=16∨p.op=17∨p.op=18∨p.op=19 by have:=hs.1;omega) with e|e|e|e|e|e|e|e|e|e|e|e<;>rw [e] at hc
   ·exact dm 3 3 hc
   ·exact dm 3 3 hc
   ·exact vu8 (show qk4 p.place (qa1 x) (qa1 y)=.ok c from hc)
   ·exact vu8 (show qk4 p.place (qa1 x) (qa1 y)=.ok c from hc)
   ·exact dm 1 3 hc
   ·exact dm 1 3 hc
   ·exact dm 1 3 hc
   ·exact dm 1 3 hc
   ·exact dm 1 1 hc
   ·exact dm 1 1 hc
   ·exact dm 1 1 hc
   ·exact dm 1 1 hc
  have hx:=ihx hs.2.1 hb.2.1 hn.2.1 hq.2.1 hcs.1
  have hy:=ihy hs.2.2 hb.2.2 hn.2.2 hq.2.2 hcs.2
  refine ⟨?_,hx,hy⟩
  have gx:=hx.gd
  have gy:=hy.gd
  by_cases h12:p.op=12
  ·exact ji6 (op:=10) rfl gx gy (j7 y) (j7 x) (.inr ⟨rfl,rfl⟩) (by rw [j7,h12];rfl)
  by_cases h13:p.op=13
  ·exact ji6 (op:=11) rfl gx gy (j7 y) (j7 x) (.inr ⟨rfl,rfl⟩) (by rw [j7,h13];rfl)
  by_cases h9:p.op=9
  ·have he:j7 (.bin p x y)=qh4 (z8 8 (j7 x) (j7 y)):=by rw [j7,h9];rfl
   have hw:WfC (z8 8 (j7 x) (j7 y)):=qg9 rfl gx.wf gy.wf
   have hl:=qq5 _ hw
   have hu:uC (z8 8 (j7 x) (j7 y))=1:=by rw [qk0];rfl
   rw [hu,y9 8 rfl rfl] at hl
   have e8:(qm6 8).length=1:=rfl
   have h1:=gx.len
   have h2:=gy.len
   have hnd:ndA (.bin p x y)=1+ndA x+ndA y:=rfl
   refine ⟨?_,by rw [he,uC_not,hu,hnd];omega,by rw [he];exact wfC_not _ hw⟩
   rw [he,hnd]
   have:=sq_add (ndA x) (ndA y) 20 (by decide)
   omega
  ·refine ji6 (op:=p.op) ?_ gx gy (j7 x) (j7 y) (.inl ⟨rfl,rfl⟩) (by rw [j7,if_neg (by simpa using h12),if_neg (by simpa using h13),if_neg (by simpa using h9)])
   have:=hs.1
   unfold binB qi5 unB
   simp only [Bool.and_eq_true,Bool.not_eq_true',Bool.or_eq_false_iff,beq_eq_false_iff_ne]
   omega
 | tri p x y z ihx ihy ihz=>
  intro hs hb hn hq hc
  obtain ⟨c,hc⟩:=hc
  have hc:qt3 p.op p.place [qa1 x,qa1 y,qa1 z]=.ok c:=hc
  rw [hs.1] at hc
  have hc:vg0 1 p.place 3 [qa1 x,qa1 y,qa1 z]=.ok c:=hc
  obtain ⟨d1,x1,x2⟩:=qp7 hc (qa1 x) (by simp)
  obtain ⟨d2,y1,y2⟩:=qp7 hc (qa1 y) (by simp)
  obtain ⟨d3,z1,z2⟩:=qp7 hc (qa1 z) (by simp)
  have hx:=ihx hs.2.1 hb.2.1 hn.2.1 hq.2.1 ⟨_,x1⟩
  have hy:=ihy hs.2.2.1 hb.2.2.1 hn.2.2.1 hq.2.2.1 ⟨_,y1⟩
  have hz:=ihz hs.2.2.2 hb.2.2.2 hn.2.2.2 hq.2.2.2 ⟨_,z1⟩
  refine ⟨?_,hx,hy,hz⟩
  have ax:=ar_len x (vi8 x d1 hs.2.1 x1 x2) hb.2.1 hn.2.1
  have ay:=ar_len y (vi8 y d2 hs.2.2.1 y1 y2) hb.2.2.1 hn.2.2.1
  have az:=ar_len z (vi8 z d3 hs.2.2.2 z1 z2) hb.2.2.2 hn.2.2.2
  have gx:=hx.gd.wf
  have gy:=hy.gd.wf
  have gz:=hz.gd.wf
  have he:j7 (.tri p x y z)=z8 6 (z8 11 (j7 y) (j7 x)) (z8 11 (j7 x) (j7 z)):=rfl
  have hnd:ndA (.tri p x y z)=1+ndA x+ndA y+ndA z:=rfl
  have px:=nd_pos x
  refine ⟨?_,by rw [he,qk0,qk0,qk0,hnd];show 1+1≤_;omega,by rw [he];exact qg9 rfl (qg9 rfl gy gx) (qg9 rfl gx gz)⟩
  rw [he,y9 6 rfl rfl,y9 11 rfl rfl,y9 11 rfl rfl,hnd]
  have e6:(qm6 6).length=3:=rfl
  have e11:(qm6 11).length=2:=rfl
  have hsq:(1+ndA x+ndA y+ndA z) * 1≤(1+ndA x+ndA y+ndA z) * (1+ndA x+ndA y+ndA z):=Nat.mul_le_mul_left _ (by omega)
  omega
theorem ve8 {s:ByteArray} {t:Ast} (h:qj8 s=.ok t):GdA t∧ndA t≤200∧ShA t∧vh1 t∧vg7 t∧BqA t:=by
 have hsh:=vx9 h
 have hcls:∃c,qa1 t=.ok c∧vh1 t∧vg7 t∧BqA t:=by
  unfold qj8 at h
  by_cases hs:s.size≤200
  ·rw [if_pos hs] at h
   cases he:(lvl s 12).E (v9 s st0) with
   | err en pl=>rw [he] at h;cases h
   | ok t1 st=>
    rw [he] at h
    change endR t1 st=_ at h
    unfold endR at h
    split at h
    ·split at h
     ·rename_i hk
      injection h with h
      subst h
      cases hc:qa1 t1 with
      | err q=>rw [hc] at hk;cases hk
      | ok c=>exact ⟨c,rfl,((lvl_num s 12).E _ _ _ (qc2 s st0) he).1,((lvl_bnd s hs 12).E _ _ _ (z7 hs st0) he).1,((lvl_bq s hs 12).E _ _ _ (z7 hs st0) he).1⟩
     ·cases h
    ·cases h
  ·rw [if_neg hs] at h;cases h
 obtain ⟨c,hc,hn,hb,hq⟩:=hcls
 exact ⟨gd_every t hsh.1 hb hn hq ⟨c,hc⟩,hsh.2,hsh.1,hn,hb,hq⟩
end
end Go.Proofs.YtfkcaldjphakpabGreatDoor
