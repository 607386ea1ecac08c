/- The document's answer: letters, digits, capitals, keywords. The document's answer: words. -/
import Derived.Test.YtfkcaldjphakpaaGreatDoorE00
import Derived.Test.YtfkcaldjphakpaaGreatDoorE07
import Derived.Test.YtfkcaldjphakpaaGreatDoorWVal1
set_option maxHeartbeats 1000000
namespace Go.Proofs.YtfkcaldjphakpaaGreatDoor
open Go.RowKit
section
theorem qe6 (c:Int) (w:World):Calls Tryz.prog 181 #[.int .u8 c] w fun e w'=>e=.returned (.bool (qx8 c))∧w'=w:=by
 unfold qx8
 go_enter Tryz.func181,Tryz.ntmps181
 go_wp2
 all_goals (go_ret;exact ⟨qc0 (by simp<;>omega),rfl⟩)
theorem qj3 (c:Int) (w:World):Calls Tryz.prog 230 #[.int .u8 c] w fun e w'=>e=.returned (.bool (va0 c))∧w'=w:=by
 unfold va0
 go_enter Tryz.func230,Tryz.ntmps230
 go_wp2
 all_goals (go_ret;exact ⟨qc0 (by simp<;>omega),rfl⟩)
theorem vq6 (s:ByteArray) (w:World):Calls Tryz.prog 232 #[.string s] w fun e w'=>e=.returned (.bool (kwK s.data.toList != 2))∧w'=w:=by
 go_enter Tryz.func232,Tryz.ntmps232
 go_wp2_with fail
 all_goals
  go_ret
  refine ⟨?_,rfl⟩
  simp only [Lib.toList_data] at *
  first
  | (rename_i h1 h2;rw [h1] at h2;cases h2;done)
  | (have hk:(kwK s.data.toList != 2)=true:=(by simp only [kwK, *,if_true,Bool.false_eq_true,if_false];rfl);rw [hk];rfl)
  | (have hk:(kwK s.data.toList != 2)=false:=(by simp only [kwK, *,Bool.false_eq_true,if_false];rfl);rw [hk];rfl)
theorem conv_one (c:UInt8) (w:World):(convert 51 9 (.slice (some ⟨w.heap.size,0,none⟩) 1 1)).run Tryz.prog (w.alloc (.cells #[.int .u8 (c.toNat:Int)] 5))=.ok (.string (BS [c])) (w.alloc (.cells #[.int .u8 (c.toNat:Int)] 5)):=by
 refine run_convert_bytes_back (P:=Tryz.prog) _ 51 9 5 ⟨w.heap.size,0,none⟩ 1 [c] Tryz.underlying51 Tryz.underlying5 Tryz.underlying9 ?_
 intro j hj
 obtain rfl:j=0:=by simp at hj;omega
 show (w.alloc _).cell? ⟨w.heap.size,0,none⟩=some (.int .u8 (c.toNat:Int))
 rw [World.cell?_alloc_at _ _ _ _ rfl]
 rfl
end
section
theorem upper_low {c:UInt8} (h:97≤c.toNat∧c.toNat≤122):((Lib.upperB c).toNat:Int)=(c.toNat:Int) - 32:=by
 have e:Lib.isLowerB c=true:=by
  unfold Lib.isLowerB
  simp only [Bool.and_eq_true,decide_eq_true_eq,UInt8.le_iff_toNat_le]
  exact h
 unfold Lib.upperB
 rw [if_pos e,UInt8.toNat_sub_of_le _ _ (by rw [UInt8.le_iff_toNat_le];show 32≤c.toNat;omega)]
 show ((c.toNat - 32:Nat):Int)=_
 omega
theorem upper_not {c:UInt8} (h:¬(97≤c.toNat∧c.toNat≤122)):Lib.upperB c=c:=by
 have e:¬Lib.isLowerB c=true:=by
  unfold Lib.isLowerB
  simp only [Bool.and_eq_true,decide_eq_true_eq,UInt8.le_iff_toNat_le]
  exact h
 unfold Lib.upperB
 rw [if_neg e]
theorem jh3 {s:ByteArray} {k:Nat} (h:k<s.size):Lib.toUpperA (s.data.toList.take (k+1))=Lib.toUpperA (s.data.toList.take k)++[Lib.upperB s[k]]:=by
 unfold Lib.toUpperA
 rw [List.take_add_one,List.map_append,List.getElem?_eq_getElem (by rw [j4];exact h),j9 s k h]
 rfl
theorem rcap_any (s:ByteArray) (hs:s.size≤1000) (w:World):Calls Tryz.prog 231 #[.string s] w fun e w'=>e=.returned (.string (BS (Lib.toUpperA s.data.toList)))∧Below w.heap.size w w':=by
 have HB:=v7 (Below.refl w.heap.size w)
 go_enter Tryz.func231,Tryz.ntmps231
 go_wp2_with fail
 go_loopw [3,4] (fun o i wr=>∃k:Nat,k≤s.size∧i=.int .i64 k∧o=.string (BS (Lib.toUpperA (s.data.toList.take k)))∧Hid (Below w.heap.size w wr)) (fun _ i _=>s.size - (intOf i).toNat)
 case atStart=>exact ⟨0,Nat.zero_le _,rfl,rfl,HB⟩
 case round=>
  obtain ⟨k,hk,rfl,rfl,B⟩:=hrel
  by_cases hlt:k<s.size
  ·have hup:=jh3 hlt
   have hadd:∀w:World,(Op.stringOp .add (BS (Lib.toUpperA (s.data.toList.take k))) (BS [Lib.upperB s[k]])).run Tryz.prog w=.ok (.string (BS (Lib.toUpperA (s.data.toList.take (k+1))))) w:=fun w=>by
    rw [hup,←BS_add]
    exact run_string_add_sum (P:=Tryz.prog) (w:=w) _ _ (by rw [qi8,qi8];simp [Lib.toUpperA];omega)
   generalize BS (Lib.toUpperA (s.data.toList.take k))=O1 at hadd ⊢
   generalize hO2:BS (Lib.toUpperA (s.data.toList.take (k+1)))=O2 at hadd
   have HO2:=v7 hO2
   have hcv:=conv_one (Lib.upperB s[k])
   have hc0:(0:Int)≤(s[k].toNat:Int):=by omega
   have hc1:(s[k].toNat:Int)<256:=by have:=s[k].toNat_lt;omega
   clear hup hO2
   by_cases hl:97≤s[k].toNat∧s[k].toNat≤122
   ·rw [upper_low hl] at hcv
    have h1:(97:Int)≤(s[k].toNat:Int):=by omega
    have h2:(s[k].toNat:Int)≤122:=by omega
    go_wp2_with fail
    exact ⟨⟨k+1,by omega,rfl,by rw [q9 HO2],v7 (v8 (q9 B) ((Below.refl _ _).alloc (Nat.le_refl _) _))⟩,by simp [intOf];omega⟩
   ·rw [upper_not hl] at hcv hadd
    by_cases h1:97≤s[k].toNat
    ·have h1':(97:Int)≤(s[k].toNat:Int):=by omega
     have h2':¬(s[k].toNat:Int)≤122:=by omega
     go_wp2_with fail
     exact ⟨⟨k+1,by omega,rfl,by rw [q9 HO2],v7 (v8 (q9 B) ((Below.refl _ _).alloc (Nat.le_refl _) _))⟩,by simp [intOf];omega⟩
    ·have h1':¬(97:Int)≤(s[k].toNat:Int):=by omega
     go_wp2_with fail
     exact ⟨⟨k+1,by omega,rfl,by rw [q9 HO2],v7 (v8 (q9 B) ((Below.refl _ _).alloc (Nat.le_refl _) _))⟩,by simp [intOf];omega⟩
  ·obtain rfl:k=s.size:=by omega
   rw [List.take_of_length_le (by rw [j4];exact Nat.le_refl _)]
   go_wp2_with fail
   go_ret
   exact ⟨rfl,q9 B⟩
end
end Go.Proofs.YtfkcaldjphakpaaGreatDoor
