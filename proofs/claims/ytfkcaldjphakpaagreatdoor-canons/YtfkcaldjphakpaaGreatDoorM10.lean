/- digits. The document's answer: letters, digits, capitals, keywords. -/
import Derived.Test.YtfkcaldjphakpaaGreatDoorM02
import Derived.Laws.IdiomStrings
import Derived.Laws.Concat
import Derived.Test.YtfkcaldjphakpaaGreatDoorM01
set_option maxHeartbeats 1000000
namespace Go.Proofs.YtfkcaldjphakpaaGreatDoor
open Go.RowKit
section
def dig (n:Nat):UInt8:=UInt8.ofNat (48+n % 10)
theorem qk1 (a b:List UInt8):BS a++BS b=BS (a++b):=by
 apply ByteArray.ext
 show (BS a++BS b).data=_
 rw [ByteArray.data_append]
 simp [BS]
end
section
theorem qi6 (c:Int) (w:World):Calls Tryz.prog 181 #[.int .u8 c] w fun e w'=>e=.returned (.bool (vd5 c))∧w'=w:=by
 unfold vd5
 go_enter Tryz.func181,Tryz.ntmps181
 go_wp2
 all_goals (go_ret;exact ⟨qn7 (by simp<;>omega),rfl⟩)
theorem qk9 (c:Int) (w:World):Calls Tryz.prog 230 #[.int .u8 c] w fun e w'=>e=.returned (.bool (vc8 c))∧w'=w:=by
 unfold vc8
 go_enter Tryz.func230,Tryz.ntmps230
 go_wp2
 all_goals (go_ret;exact ⟨qn7 (by simp<;>omega),rfl⟩)
theorem vu7 (s:ByteArray) (w:World):Calls Tryz.prog 232 #[.string s] w fun e w'=>e=.returned (.bool (kwK s.data.toList != 2))∧w'=w:=by
 go_enter Tryz.func232,Tryz.ntmps232
 go_wp2_with fail
 all_goals
  go_ret
  refine ⟨?_,rfl⟩
  simp only [Lib.toList_data] at *
  first
  | (rename_i h1 h2;rw [h1] at h2;cases h2;done)
  | (have hk:(kwK s.data.toList != 2)=true:=(by simp only [kwK, *,if_true,Bool.false_eq_true,if_false];rfl);rw [hk];rfl)
  | (have hk:(kwK s.data.toList != 2)=false:=(by simp only [kwK, *,Bool.false_eq_true,if_false];rfl);rw [hk];rfl)
theorem jd5 (c:UInt8) (w:World):(convert 51 9 (.slice (some ⟨w.heap.size,0,none⟩) 1 1)).run Tryz.prog (w.alloc (.cells #[.int .u8 (c.toNat:Int)] 5))=.ok (.string (BS [c])) (w.alloc (.cells #[.int .u8 (c.toNat:Int)] 5)):=by
 refine run_convert_bytes_back (P:=Tryz.prog) _ 51 9 5 ⟨w.heap.size,0,none⟩ 1 [c] Tryz.underlying51 Tryz.underlying5 Tryz.underlying9 ?_
 intro j hj
 obtain rfl:j=0:=by simp at hj;omega
 show (w.alloc _).cell? ⟨w.heap.size,0,none⟩=some (.int .u8 (c.toNat:Int))
 rw [World.cell?_alloc_at _ _ _ _ rfl]
 rfl
end
end Go.Proofs.YtfkcaldjphakpaaGreatDoor
