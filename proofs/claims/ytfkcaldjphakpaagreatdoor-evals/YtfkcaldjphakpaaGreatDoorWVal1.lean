/- Contracts of package value: the logic and the comparisons. -/
import Derived.Test.YtfkcaldjphakpaaGreatDoorE00
set_option maxHeartbeats 400000
namespace Go.Proofs.YtfkcaldjphakpaaGreatDoor
open Go.RowKit
structure V where
 kind:Int
 num:Int
 str:List UInt8
 deriving DecidableEq
def vV (v:V):Value:=.agg #[.int .i64 v.kind,.int .i64 v.num,.string (BS v.str)]
def nV:V:=⟨0,0,[]⟩
def bV (b:Bool):V:=⟨1,if b then 1 else 0,[]⟩
def iV (n:Int):V:=⟨2,n,[]⟩
def tV (s:List UInt8):V:=⟨3,0,s⟩
theorem qi1 (b:Bool) (w:World) :
  Calls Tryz.prog 64 #[.bool b] w fun e w'=>e=.returned (vV (bV b))∧Below w.heap.size w w':=by
 cases b
 all_goals
  go_enter Tryz.func64,Tryz.ntmps64
  go_wp2_with fail
  refine bodyPost_ret (by simp [results,Tryz.results64,go_sem];rfl) rfl ⟨rfl,(Below.refl _ _).alloc (Nat.le_refl _) _⟩
theorem qp7 (n:Int) (w:World) :
  Calls Tryz.prog 62 #[.int .i64 n] w fun e w'=>e=.returned (vV (iV n))∧Below w.heap.size w w':=by
 go_enter Tryz.func62,Tryz.ntmps62
 go_wp2_with fail
 refine bodyPost_ret (by simp [results,Tryz.results62,go_sem];rfl) rfl ⟨rfl,(Below.refl _ _).alloc (Nat.le_refl _) _⟩
theorem vs7 (s:ByteArray) (w:World) :
  Calls Tryz.prog 63 #[.string s] w fun e w'=>e=.returned (vV (tV s.data.toList))∧Below w.heap.size w w':=by
 go_enter Tryz.func63,Tryz.ntmps63
 go_wp2_with fail
 refine bodyPost_ret (by simp [results,Tryz.results63,go_sem];rfl) rfl ⟨rfl,(Below.refl _ _).alloc (Nat.le_refl _) _⟩
theorem qd7 (w:World) :
  Calls Tryz.prog 152 #[] w fun e w'=>e=.returned (vV nV)∧Below w.heap.size w w':=by
 go_enter Tryz.func152,Tryz.ntmps152
 go_wp2_with fail
 refine bodyPost_ret (by simp [results,Tryz.results152,go_sem];rfl) rfl ⟨rfl,(Below.refl _ _).alloc (Nat.le_refl _) _⟩
def qg4 (x y:V):Bool:=x.kind==2&&y.kind==2
theorem qb2 (w:World) (o o':Obj):Below w.heap.size w ((w.alloc o).alloc o'):=((Below.refl _ _).alloc (Nat.le_refl _) o).alloc (by simp) o'
theorem x4 (w:World) (o o' o'':Obj):Below w.heap.size w (((w.alloc o).alloc o').alloc o''):=(qb2 w o o').alloc (by simp;omega) o''
theorem qa6 (x y:V) (w:World) :
  Calls Tryz.prog 153 #[vV x,vV y] w fun e w'=>e=.returned (.bool (qg4 x y))∧Below w.heap.size w w':=by
 unfold qg4 vV
 go_enter Tryz.func153,Tryz.ntmps153
 go_wp2_with fail
 all_goals
  go_ret
  exact ⟨qc0 (by simp_all),qb2 _ _ _⟩
theorem v8 {w W w':World} (h1:Below w.heap.size w W) (h2:Below W.heap.size W w'):Below w.heap.size w w':=h1.trans (h2.mono h1.size)
def qz7 (x:V):V:=if x.kind==1 then bV (x.num==0) else nV
theorem jb1 (x:V) (w:World) :
  Calls Tryz.prog 157 #[vV x] w fun e w'=>e=.returned (vV (qz7 x))∧Below w.heap.size w w':=by
 unfold qz7
 cases hk:(x.kind==1) with
 | true=>
  have hk':(x.kind != 1)=false:=by simp only [bne,hk];rfl
  simp only [vV]
  go_enter Tryz.func157,Tryz.ntmps157
  go_wp2_with (go_at_call 64;refine (qi1 _ _).mono ?_;rintro e w' ⟨rfl,hb⟩;obtain ⟨hc,hf⟩:=v9 hb;simp only [vV])
  refine bodyPost_ret (by simp [results,Tryz.results157,go_sem,hc]<;>rfl) rfl ⟨rfl, ?_⟩
  exact ((((v8 (qb2 _ _ _) hb).setCell (by simp) _).setCell (by simp) _).setCell (by simp) _)
 | false=>
  have hk':(x.kind != 1)=true:=by simp only [bne,hk];rfl
  simp only [vV]
  go_enter Tryz.func157,Tryz.ntmps157
  go_wp2_with (go_at_call 152;refine (qd7 _).mono ?_;rintro e w' ⟨rfl,hb⟩;obtain ⟨hc,hf⟩:=v9 hb;simp only [vV])
  refine bodyPost_ret (by simp [results,Tryz.results157,go_sem,hc]<;>rfl) rfl ⟨rfl, ?_⟩
  exact ((((v8 (qb2 _ _ _) hb).setCell (by simp) _).setCell (by simp) _).setCell (by simp) _)
theorem vy4 (x:V) (w:World) :
  Calls Tryz.prog 163 #[vV x] w fun e w'=>e=.returned (vV (bV (x.kind==0)))∧Below w.heap.size w w':=by
 simp only [vV]
 go_enter Tryz.func163,Tryz.ntmps163
 go_wp2_with (go_at_call 64;refine (qi1 _ _).mono ?_;rintro e w' ⟨rfl,hb⟩;obtain ⟨hc,hf⟩:=v9 hb;simp only [vV])
 refine bodyPost_ret (by simp [results,Tryz.results163,go_sem,hc]<;>rfl) rfl ⟨rfl, ?_⟩
 exact ((((v8 (qb2 _ _ _) hb).setCell (by simp) _).setCell (by simp) _).setCell (by simp) _)
def eqV (x y:V):V:=if x.kind==0||!(x.kind==y.kind) then nV else bV (decide (x=y))
def qp0 (x y:V):V:=if qg4 x y then bV (decide (x.num<y.num)) else nV
def leV (x y:V):V:=if qg4 x y then bV (decide (x.num≤y.num)) else nV
theorem vs6 (x y:V) (w:World) :
  Calls Tryz.prog 158 #[vV x,vV y] w fun e w'=>e=.returned (vV (qp0 x y))∧Below w.heap.size w w':=by
 unfold qp0
 cases hk:qg4 x y with
 | true=>
  have HK:=v7 hk
  clear hk
  simp only [if_true]
  obtain ⟨b,hb⟩:∃b,decide (x.num<y.num)=b:=⟨_,rfl⟩
  rw [hb]
  have HB:=v7 hb
  clear hb
  conv=>arg 3;simp only [vV]
  go_enter Tryz.func158,Tryz.ntmps158
  go_wp2_with (first|(go_at_call 153;refine (qa6 x y _).mono ?_;rintro e w1 ⟨rfl,hb1⟩;rw [q9 HK];obtain ⟨hc1,hf1⟩:=v9 hb1;have hz1:w.heap.size+2<w1.heap.size:=(by have:=hb1.size;simp at this;omega))|(go_at_call 64;rw [q9 HB];refine (qi1 _ _).mono ?_;rintro e w2 ⟨rfl,hb2⟩;obtain ⟨hc2,hf2⟩:=v9 hb2;simp only [vV]))
  refine bodyPost_ret (by simp [results,Tryz.results158,go_sem,hc2,hc1,hz1]<;>rfl) rfl ⟨rfl, ?_⟩
  exact ((((v8 (v8 (x4 _ _ _ _) hb1) hb2).setCell (by simp;omega) _).setCell (by simp;omega) _).setCell (by simp;omega) _)
 | false=>
  have HK:=v7 hk
  clear hk
  simp only [Bool.false_eq_true,if_false]
  conv=>arg 3;simp only [vV]
  go_enter Tryz.func158,Tryz.ntmps158
  go_wp2_with (first|(go_at_call 153;refine (qa6 x y _).mono ?_;rintro e w1 ⟨rfl,hb1⟩;rw [q9 HK];obtain ⟨hc1,hf1⟩:=v9 hb1;have hz1:w.heap.size+2<w1.heap.size:=(by have:=hb1.size;simp at this;omega))|(go_at_call 152;refine (qd7 _).mono ?_;rintro e w2 ⟨rfl,hb2⟩;obtain ⟨hc2,hf2⟩:=v9 hb2;simp only [vV]))
  refine bodyPost_ret (by simp [results,Tryz.results158,go_sem,hc2,hc1,hz1]<;>rfl) rfl ⟨rfl, ?_⟩
  exact ((((v8 (v8 (x4 _ _ _ _) hb1) hb2).setCell (by simp;omega) _).setCell (by simp;omega) _).setCell (by simp;omega) _)
theorem qk8 (x y:V) (w:World) :
  Calls Tryz.prog 107 #[vV x,vV y] w fun e w'=>e=.returned (vV (leV x y))∧Below w.heap.size w w':=by
 unfold leV
 cases hk:qg4 x y with
 | true=>
  have HK:=v7 hk
  clear hk
  simp only [if_true]
  obtain ⟨b,hb⟩:∃b,decide (x.num≤y.num)=b:=⟨_,rfl⟩
  rw [hb]
  have HB:=v7 hb
  clear hb
  conv=>arg 3;simp only [vV]
  go_enter Tryz.func107,Tryz.ntmps107
  go_wp2_with (first|(go_at_call 153;refine (qa6 x y _).mono ?_;rintro e w1 ⟨rfl,hb1⟩;rw [q9 HK];obtain ⟨hc1,hf1⟩:=v9 hb1;have hz1:w.heap.size+2<w1.heap.size:=(by have:=hb1.size;simp at this;omega))|(go_at_call 64;rw [q9 HB];refine (qi1 _ _).mono ?_;rintro e w2 ⟨rfl,hb2⟩;obtain ⟨hc2,hf2⟩:=v9 hb2;simp only [vV]))
  refine bodyPost_ret (by simp [results,Tryz.results107,go_sem,hc2,hc1,hz1]<;>rfl) rfl ⟨rfl, ?_⟩
  exact ((((v8 (v8 (x4 _ _ _ _) hb1) hb2).setCell (by simp;omega) _).setCell (by simp;omega) _).setCell (by simp;omega) _)
 | false=>
  have HK:=v7 hk
  clear hk
  simp only [Bool.false_eq_true,if_false]
  conv=>arg 3;simp only [vV]
  go_enter Tryz.func107,Tryz.ntmps107
  go_wp2_with (first|(go_at_call 153;refine (qa6 x y _).mono ?_;rintro e w1 ⟨rfl,hb1⟩;rw [q9 HK];obtain ⟨hc1,hf1⟩:=v9 hb1;have hz1:w.heap.size+2<w1.heap.size:=(by have:=hb1.size;simp at this;omega))|(go_at_call 152;refine (qd7 _).mono ?_;rintro e w2 ⟨rfl,hb2⟩;obtain ⟨hc2,hf2⟩:=v9 hb2;simp only [vV]))
  refine bodyPost_ret (by simp [results,Tryz.results107,go_sem,hc2,hc1,hz1]<;>rfl) rfl ⟨rfl, ?_⟩
  exact ((((v8 (v8 (x4 _ _ _ _) hb1) hb2).setCell (by simp;omega) _).setCell (by simp;omega) _).setCell (by simp;omega) _)
theorem qr3 (x y:V) (w:World):(binOp .eql 26 (vV x) (vV y)).run Tryz.prog w=.ok (.bool (decide (x=y))) w:=by
 obtain ⟨k,n,s⟩:=x
 obtain ⟨k',n',s'⟩:=y
 simp only [vV,V.mk.injEq]
 by_cases h1:k=k'
 ·by_cases h2:n=n'
  ·by_cases h3:s=s'
   ·subst h1 h2 h3
    simp [go_sem]
   ·simp [go_sem,h1,h2,h3,qi0]
  ·simp [go_sem,h1,h2]
 ·simp [go_sem,h1]
theorem qz4 (x y:V) (w:World) :
  Calls Tryz.prog 155 #[vV x,vV y] w fun e w'=>e=.returned (vV (eqV x y))∧Below w.heap.size w w':=by
 have he:=fun w=>qr3 x y w
 simp only [vV] at he
 unfold eqV
 generalize decide (x=y)=d at *
 cases h0:(x.kind==0) with
 | true=>
  simp only [Bool.true_or,if_true]
  conv=>arg 3;simp only [vV]
  go_enter Tryz.func155,Tryz.ntmps155
  go_wp2_with (first|(go_at_call 64;refine (qi1 _ _).mono ?_;rintro e w' ⟨rfl,hb⟩;obtain ⟨hc,hf⟩:=v9 hb;have hz:w.heap.size+2<w'.heap.size:=(by have:=hb.size;simp at this;omega);have hB:Below w.heap.size w w':=(by first|exact v8 (x4 _ _ _ _) hb|exact v8 (by assumption) hb);clear hb;simp only [vV])|(go_at_call 152;refine (qd7 _).mono ?_;rintro e w' ⟨rfl,hb⟩;obtain ⟨hc,hf⟩:=v9 hb;have hz:w.heap.size+2<w'.heap.size:=(by have:=hb.size;simp at this;omega);have hB:Below w.heap.size w w':=(by first|exact v8 (x4 _ _ _ _) hb|exact v8 (by assumption) hb);clear hb;simp only [vV]))
  refine bodyPost_ret (by simp [results,Tryz.results155,go_sem, *]<;>rfl) rfl ⟨rfl, ?_⟩
  exact (((hB.setCell (by simp;omega) _).setCell (by simp;omega) _).setCell (by simp;omega) _)
 | false=>
  cases h1:(x.kind==y.kind) with
  | false=>
   have h2:(x.kind != y.kind)=true:=by simp only [bne,h1];rfl
   simp only [Bool.false_or,Bool.not_false,if_true]
   conv=>arg 3;simp only [vV]
   go_enter Tryz.func155,Tryz.ntmps155
   go_wp2_with (first|(go_at_call 64;refine (qi1 _ _).mono ?_;rintro e w' ⟨rfl,hb⟩;obtain ⟨hc,hf⟩:=v9 hb;have hz:w.heap.size+2<w'.heap.size:=(by have:=hb.size;simp at this;omega);have hB:Below w.heap.size w w':=(by first|exact v8 (x4 _ _ _ _) hb|exact v8 (by assumption) hb);clear hb;simp only [vV])|(go_at_call 152;refine (qd7 _).mono ?_;rintro e w' ⟨rfl,hb⟩;obtain ⟨hc,hf⟩:=v9 hb;have hz:w.heap.size+2<w'.heap.size:=(by have:=hb.size;simp at this;omega);have hB:Below w.heap.size w w':=(by first|exact v8 (x4 _ _ _ _) hb|exact v8 (by assumption) hb);clear hb;simp only [vV]))
   refine bodyPost_ret (by simp [results,Tryz.results155,go_sem, *]<;>rfl) rfl ⟨rfl, ?_⟩
   exact (((hB.setCell (by simp;omega) _).setCell (by simp;omega) _).setCell (by simp;omega) _)
  | true=>
   have h2:(x.kind != y.kind)=false:=by simp only [bne,h1];rfl
   simp only [Bool.false_or,Bool.not_true,Bool.false_eq_true,if_false]
   conv=>arg 3;simp only [vV]
   go_enter Tryz.func155,Tryz.ntmps155
   go_wp2_with (first|(go_at_call 64;refine (qi1 _ _).mono ?_;rintro e w' ⟨rfl,hb⟩;obtain ⟨hc,hf⟩:=v9 hb;have hz:w.heap.size+2<w'.heap.size:=(by have:=hb.size;simp at this;omega);have hB:Below w.heap.size w w':=(by first|exact v8 (x4 _ _ _ _) hb|exact v8 (by assumption) hb);clear hb;simp only [vV])|(go_at_call 152;refine (qd7 _).mono ?_;rintro e w' ⟨rfl,hb⟩;obtain ⟨hc,hf⟩:=v9 hb;have hz:w.heap.size+2<w'.heap.size:=(by have:=hb.size;simp at this;omega);have hB:Below w.heap.size w w':=(by first|exact v8 (x4 _ _ _ _) hb|exact v8 (by assumption) hb);clear hb;simp only [vV]))
   refine bodyPost_ret (by simp [results,Tryz.results155,go_sem, *]<;>rfl) rfl ⟨rfl, ?_⟩
   exact (((hB.setCell (by simp;omega) _).setCell (by simp;omega) _).setCell (by simp;omega) _)
end Go.Proofs.YtfkcaldjphakpaaGreatDoor
