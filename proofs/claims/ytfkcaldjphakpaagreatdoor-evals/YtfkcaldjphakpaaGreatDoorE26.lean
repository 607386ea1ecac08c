/- strconv.ErrRange lies where the rows say. Op.Join: operator 5. Op.Join: operator 6. Op.Join: operator 7. Op.Join: operator 8. Op.Join: operator 9. Op.Join: operator 10. Op.Join: operator 11. Op.Join: operator 12. Op.Join: operator 13. Op.Join: operator 16. Op.Join: operator 17. Op.Join: operator 18. Op.Join: operator 19. Op.Join: operator none. All of Join but for the signs. A block that is left at its end. The world behind x, y = Int(0), x. Op.Join: operator 14. Op.Join: operator 15. The document's answer: product. The document's answer: Or. The document's answer: what a node is, if its operands are those: BETWEEN, LIKE. -/
import Derived.Test.YtfkcaldjphakpaaGreatDoorE01
import Derived.Test.YtfkcaldjphakpaaGreatDoorRows
import Derived.LaidLaws
import Derived.Lib.LaidU8
import Derived.MakeChecks
import Derived.Test.YtfkcaldjphakpaaGreatDoorE06
import Derived.Deep.RegionWith
import Derived.Test.YtfkcaldjphakpaaGreatDoorE13
import Derived.Test.YtfkcaldjphakpaaGreatDoorE24
import Derived.Deep.DeepCutAuto
import Derived.Deep.RegionHeld3
set_option maxHeartbeats 4000000
set_option maxRecDepth 100000
namespace Go.Proofs.YtfkcaldjphakpaaGreatDoor
open Go.RowKit
section
theorem vz2 : Tryz.prog.globalNamed "strconv.ErrRange" = some 3 := by kernel_rfl
theorem vn2:(Tryz.prog.globals[3]?).map (·.type)=some 280:=by kernel_rfl
theorem err_of {W : World} {l : List (String × DataW Unit)} (hm : ("strconv.ErrRange", Rows.laid_strconv_ErrRange) ∈ l) (h : laidMet Tryz.prog l W) : ErrOk W := by
 obtain ⟨g,t,cs,fuel,p,h1,h2,h3,h4⟩:=Lib.laidMet.reads h hm
 obtain rfl:3=g:=Option.some.inj (vz2.symm.trans h1)
 obtain rfl:280=t:=Option.some.inj (vn2.symm.trans h2)
 obtain ⟨f1,u,v,hcs,_,_⟩:=iface_of_trod Tryz.underlying280 h4
 unfold World.var? at h3
 rw [vz2] at h3
 simp only [Option.bind_some] at h3
 split at h3
 ·rename_i c ty fz hh
  injection h3 with h3
  subst h3
  refine ⟨(Array.getElem?_eq_some_iff.1 hh).1,.iface u v, ?_,.inr ⟨u,v,rfl⟩⟩
  have h0:c[0]?=some (.iface u v):=by
   rw [←Array.getElem?_toList,hcs];rfl
  rw [World.cell?]
  simp [hh,h0]
 ·cases h3
end
section
theorem join_5 (x y:V):qj9 5 x y (qz7 x):=by
 intro w
 have CON:=v7 (fun w=>jb1 x w)
 conv=>arg 3;simp only [vV]
 go_enter Tryz.func110,Tryz.ntmps110
 repeat ((fail_if_success (with_reducible refine wp_exit ?_));go_step)
 with_reducible refine wp_exit ?_
 repeat (first|(with_reducible refine qe9 ?_)|(with_reducible refine qb8 ?_)|((with_reducible refine qb0 ?hne ?_);(case hne=>rfl)))
 with_reducible refine qb9 ?_
 go_wp2_with (go_at_call 157;refine (q9 CON _).mono ?_;rintro e w1 ⟨rfl,hb1⟩;obtain ⟨hc1,hf1⟩:=v9 hb1;have hz1:w.heap.size+2<w1.heap.size:=(by have:=hb1.size;simp at this;omega);simp only [vV])
 refine bodyPost_ret (by simp [results,Tryz.results110,go_sem,hc1]<;>rfl) rfl ⟨rfl, ?_⟩
 exact ((((v8 (x4 _ _ _ _) hb1).setCell (by simp;omega) _).setCell (by simp;omega) _).setCell (by simp;omega) _)
end
section
theorem join_6 (x y:V):qj9 6 x y (jb6 x y):=by
 intro w
 have CON:=v7 (fun w=>jb0 x y w)
 conv=>arg 3;simp only [vV]
 go_enter Tryz.func110,Tryz.ntmps110
 repeat ((fail_if_success (with_reducible refine wp_exit ?_));go_step)
 with_reducible refine wp_exit ?_
 repeat (first|(with_reducible refine qe9 ?_)|(with_reducible refine qb8 ?_)|((with_reducible refine qb0 ?hne ?_);(case hne=>rfl)))
 with_reducible refine qb9 ?_
 go_wp2_with (go_at_call 106;refine (q9 CON _).mono ?_;rintro e w1 ⟨rfl,hb1⟩;obtain ⟨hc1,hf1⟩:=v9 hb1;have hz1:w.heap.size+2<w1.heap.size:=(by have:=hb1.size;simp at this;omega);simp only [vV])
 refine bodyPost_ret (by simp [results,Tryz.results110,go_sem,hc1]<;>rfl) rfl ⟨rfl, ?_⟩
 exact ((((v8 (x4 _ _ _ _) hb1).setCell (by simp;omega) _).setCell (by simp;omega) _).setCell (by simp;omega) _)
end
section
theorem join_7 (x y:V):qj9 7 x y (orV x y):=by
 intro w
 have CON:=v7 (fun w=>vOr_any x y w)
 conv=>arg 3;simp only [vV]
 go_enter Tryz.func110,Tryz.ntmps110
 repeat ((fail_if_success (with_reducible refine wp_exit ?_));go_step)
 with_reducible refine wp_exit ?_
 repeat (first|(with_reducible refine qe9 ?_)|(with_reducible refine qb8 ?_)|((with_reducible refine qb0 ?hne ?_);(case hne=>rfl)))
 with_reducible refine qb9 ?_
 go_wp2_with (go_at_call 154;refine (q9 CON _).mono ?_;rintro e w1 ⟨rfl,hb1⟩;obtain ⟨hc1,hf1⟩:=v9 hb1;have hz1:w.heap.size+2<w1.heap.size:=(by have:=hb1.size;simp at this;omega);simp only [vV])
 refine bodyPost_ret (by simp [results,Tryz.results110,go_sem,hc1]<;>rfl) rfl ⟨rfl, ?_⟩
 exact ((((v8 (x4 _ _ _ _) hb1).setCell (by simp;omega) _).setCell (by simp;omega) _).setCell (by simp;omega) _)
end
section
theorem join_8 (x y:V):qj9 8 x y (eqV x y):=by
 intro w
 have CON:=v7 (fun w=>qz4 x y w)
 conv=>arg 3;simp only [vV]
 go_enter Tryz.func110,Tryz.ntmps110
 repeat ((fail_if_success (with_reducible refine wp_exit ?_));go_step)
 with_reducible refine wp_exit ?_
 repeat (first|(with_reducible refine qe9 ?_)|(with_reducible refine qb8 ?_)|((with_reducible refine qb0 ?hne ?_);(case hne=>rfl)))
 with_reducible refine qb9 ?_
 go_wp2_with (go_at_call 155;refine (q9 CON _).mono ?_;rintro e w1 ⟨rfl,hb1⟩;obtain ⟨hc1,hf1⟩:=v9 hb1;have hz1:w.heap.size+2<w1.heap.size:=(by have:=hb1.size;simp at this;omega);simp only [vV])
 refine bodyPost_ret (by simp [results,Tryz.results110,go_sem,hc1]<;>rfl) rfl ⟨rfl, ?_⟩
 exact ((((v8 (x4 _ _ _ _) hb1).setCell (by simp;omega) _).setCell (by simp;omega) _).setCell (by simp;omega) _)
end
section
theorem join_9 (x y:V):qj9 9 x y (qz7 (eqV x y)):=by
 intro w
 have CON:=v7 (fun w=>qz4 x y w)
 have CON2:=v7 (fun w=>jb1 (eqV x y) w)
 conv=>arg 3;simp only [vV]
 go_enter Tryz.func110,Tryz.ntmps110
 repeat ((fail_if_success (with_reducible refine wp_exit ?_));go_step)
 with_reducible refine wp_exit ?_
 repeat (first|(with_reducible refine qe9 ?_)|(with_reducible refine qb8 ?_)|((with_reducible refine qb0 ?hne ?_);(case hne=>rfl)))
 with_reducible refine qb9 ?_
 go_wp2_with (first|(go_at_call 155;refine (q9 CON _).mono ?_;rintro e w0 ⟨rfl,hb0⟩)|(go_at_call 157;refine (q9 CON2 _).mono ?_;rintro e w1 ⟨rfl,hb1'⟩;have hb1:=v8 hb0 hb1';obtain ⟨hc1,hf1⟩:=v9 hb1;have hz1:w.heap.size+2<w1.heap.size:=(by have:=hb1.size;simp at this;omega);simp only [vV]))
 refine bodyPost_ret (by simp [results,Tryz.results110,go_sem,hc1]<;>rfl) rfl ⟨rfl, ?_⟩
 exact ((((v8 (x4 _ _ _ _) hb1).setCell (by simp;omega) _).setCell (by simp;omega) _).setCell (by simp;omega) _)
end
section
theorem join_10 (x y:V):qj9 10 x y (qp0 x y):=by
 intro w
 have CON:=v7 (fun w=>vs6 x y w)
 conv=>arg 3;simp only [vV]
 go_enter Tryz.func110,Tryz.ntmps110
 repeat ((fail_if_success (with_reducible refine wp_exit ?_));go_step)
 with_reducible refine wp_exit ?_
 repeat (first|(with_reducible refine qe9 ?_)|(with_reducible refine qb8 ?_)|((with_reducible refine qb0 ?hne ?_);(case hne=>rfl)))
 with_reducible refine qb9 ?_
 go_wp2_with (go_at_call 158;refine (q9 CON _).mono ?_;rintro e w1 ⟨rfl,hb1⟩;obtain ⟨hc1,hf1⟩:=v9 hb1;have hz1:w.heap.size+2<w1.heap.size:=(by have:=hb1.size;simp at this;omega);simp only [vV])
 refine bodyPost_ret (by simp [results,Tryz.results110,go_sem,hc1]<;>rfl) rfl ⟨rfl, ?_⟩
 exact ((((v8 (x4 _ _ _ _) hb1).setCell (by simp;omega) _).setCell (by simp;omega) _).setCell (by simp;omega) _)
end
section
theorem join_11 (x y:V):qj9 11 x y (leV x y):=by
 intro w
 have CON:=v7 (fun w=>qk8 x y w)
 conv=>arg 3;simp only [vV]
 go_enter Tryz.func110,Tryz.ntmps110
 repeat ((fail_if_success (with_reducible refine wp_exit ?_));go_step)
 with_reducible refine wp_exit ?_
 repeat (first|(with_reducible refine qe9 ?_)|(with_reducible refine qb8 ?_)|((with_reducible refine qb0 ?hne ?_);(case hne=>rfl)))
 with_reducible refine qb9 ?_
 go_wp2_with (go_at_call 107;refine (q9 CON _).mono ?_;rintro e w1 ⟨rfl,hb1⟩;obtain ⟨hc1,hf1⟩:=v9 hb1;have hz1:w.heap.size+2<w1.heap.size:=(by have:=hb1.size;simp at this;omega);simp only [vV])
 refine bodyPost_ret (by simp [results,Tryz.results110,go_sem,hc1]<;>rfl) rfl ⟨rfl, ?_⟩
 exact ((((v8 (x4 _ _ _ _) hb1).setCell (by simp;omega) _).setCell (by simp;omega) _).setCell (by simp;omega) _)
end
section
theorem join_12 (x y:V):qj9 12 x y (qp0 y x):=by
 intro w
 have CON:=v7 (fun w=>vs6 y x w)
 conv=>arg 3;simp only [vV]
 go_enter Tryz.func110,Tryz.ntmps110
 repeat ((fail_if_success (with_reducible refine wp_exit ?_));go_step)
 with_reducible refine wp_exit ?_
 repeat (first|(with_reducible refine qe9 ?_)|(with_reducible refine qb8 ?_)|((with_reducible refine qb0 ?hne ?_);(case hne=>rfl)))
 with_reducible refine qb9 ?_
 go_wp2_with (go_at_call 158;refine (q9 CON _).mono ?_;rintro e w1 ⟨rfl,hb1⟩;obtain ⟨hc1,hf1⟩:=v9 hb1;have hz1:w.heap.size+2<w1.heap.size:=(by have:=hb1.size;simp at this;omega);simp only [vV])
 refine bodyPost_ret (by simp [results,Tryz.results110,go_sem,hc1]<;>rfl) rfl ⟨rfl, ?_⟩
 exact ((((v8 (x4 _ _ _ _) hb1).setCell (by simp;omega) _).setCell (by simp;omega) _).setCell (by simp;omega) _)
end
section
theorem join_13 (x y:V):qj9 13 x y (leV y x):=by
 intro w
 have CON:=v7 (fun w=>qk8 y x w)
 conv=>arg 3;simp only [vV]
 go_enter Tryz.func110,Tryz.ntmps110
 repeat ((fail_if_success (with_reducible refine wp_exit ?_));go_step)
 with_reducible refine wp_exit ?_
 repeat (first|(with_reducible refine qe9 ?_)|(with_reducible refine qb8 ?_)|((with_reducible refine qb0 ?hne ?_);(case hne=>rfl)))
 with_reducible refine qb9 ?_
 go_wp2_with (go_at_call 107;refine (q9 CON _).mono ?_;rintro e w1 ⟨rfl,hb1⟩;obtain ⟨hc1,hf1⟩:=v9 hb1;have hz1:w.heap.size+2<w1.heap.size:=(by have:=hb1.size;simp at this;omega);simp only [vV])
 refine bodyPost_ret (by simp [results,Tryz.results110,go_sem,hc1]<;>rfl) rfl ⟨rfl, ?_⟩
 exact ((((v8 (x4 _ _ _ _) hb1).setCell (by simp;omega) _).setCell (by simp;omega) _).setCell (by simp;omega) _)
end
section
theorem join_16 (x y:V) (hx:Rng x.num) (hy:Rng y.num):qj9 16 x y (vk4 x y):=by
 intro w
 have CON:=v7 (fun w=>ja9 x y hx hy w)
 conv=>arg 3;simp only [vV]
 go_enter Tryz.func110,Tryz.ntmps110
 repeat ((fail_if_success (with_reducible refine wp_exit ?_));go_step)
 with_reducible refine wp_exit ?_
 repeat (first|(with_reducible refine qe9 ?_)|(with_reducible refine qb8 ?_)|((with_reducible refine qb0 ?hne ?_);(case hne=>rfl)))
 with_reducible refine qb9 ?_
 go_wp2_with (go_at_call 159;refine (q9 CON _).mono ?_;rintro e w1 ⟨rfl,hb1⟩;obtain ⟨hc1,hf1⟩:=v9 hb1;have hz1:w.heap.size+2<w1.heap.size:=(by have:=hb1.size;simp at this;omega);simp only [vV])
 refine bodyPost_ret (by simp [results,Tryz.results110,go_sem,hc1]<;>rfl) rfl ⟨rfl, ?_⟩
 exact ((((v8 (x4 _ _ _ _) hb1).setCell (by simp;omega) _).setCell (by simp;omega) _).setCell (by simp;omega) _)
end
section
theorem join_17 (x y:V) (hx:Rng x.num) (hy:Rng y.num):qj9 17 x y (vk6 x y):=by
 intro w
 have CON:=v7 (fun w=>qx4 x y hx hy w)
 conv=>arg 3;simp only [vV]
 go_enter Tryz.func110,Tryz.ntmps110
 repeat ((fail_if_success (with_reducible refine wp_exit ?_));go_step)
 with_reducible refine wp_exit ?_
 repeat (first|(with_reducible refine qe9 ?_)|(with_reducible refine qb8 ?_)|((with_reducible refine qb0 ?hne ?_);(case hne=>rfl)))
 with_reducible refine qb9 ?_
 go_wp2_with (go_at_call 160;refine (q9 CON _).mono ?_;rintro e w1 ⟨rfl,hb1⟩;obtain ⟨hc1,hf1⟩:=v9 hb1;have hz1:w.heap.size+2<w1.heap.size:=(by have:=hb1.size;simp at this;omega);simp only [vV])
 refine bodyPost_ret (by simp [results,Tryz.results110,go_sem,hc1]<;>rfl) rfl ⟨rfl, ?_⟩
 exact ((((v8 (x4 _ _ _ _) hb1).setCell (by simp;omega) _).setCell (by simp;omega) _).setCell (by simp;omega) _)
end
section
theorem join_18 (x y:V) (hx:Rng x.num) (hy:Rng y.num):qj9 18 x y (je1 x y):=by
 intro w
 have CON:=v7 (fun w=>vk1 x y hx hy w)
 conv=>arg 3;simp only [vV]
 go_enter Tryz.func110,Tryz.ntmps110
 repeat ((fail_if_success (with_reducible refine wp_exit ?_));go_step)
 with_reducible refine wp_exit ?_
 repeat (first|(with_reducible refine qe9 ?_)|(with_reducible refine qb8 ?_)|((with_reducible refine qb0 ?hne ?_);(case hne=>rfl)))
 with_reducible refine qb9 ?_
 go_wp2_with (go_at_call 161;refine (q9 CON _).mono ?_;rintro e w1 ⟨rfl,hb1⟩;obtain ⟨hc1,hf1⟩:=v9 hb1;have hz1:w.heap.size+2<w1.heap.size:=(by have:=hb1.size;simp at this;omega);simp only [vV])
 refine bodyPost_ret (by simp [results,Tryz.results110,go_sem,hc1]<;>rfl) rfl ⟨rfl, ?_⟩
 exact ((((v8 (x4 _ _ _ _) hb1).setCell (by simp;omega) _).setCell (by simp;omega) _).setCell (by simp;omega) _)
end
section
theorem join_19 (x y:V) (hx:Rng x.num):qj9 19 x y (jc7 x y):=by
 intro w
 have CON:=v7 (fun w=>vy3 x y hx w)
 conv=>arg 3;simp only [vV]
 go_enter Tryz.func110,Tryz.ntmps110
 repeat ((fail_if_success (with_reducible refine wp_exit ?_));go_step)
 with_reducible refine wp_exit ?_
 repeat (first|(with_reducible refine qe9 ?_)|(with_reducible refine qb8 ?_)|((with_reducible refine qb0 ?hne ?_);(case hne=>rfl)))
 with_reducible refine qb9 ?_
 go_wp2_with (go_at_call 162;refine (q9 CON _).mono ?_;rintro e w1 ⟨rfl,hb1⟩;obtain ⟨hc1,hf1⟩:=v9 hb1;have hz1:w.heap.size+2<w1.heap.size:=(by have:=hb1.size;simp at this;omega);simp only [vV])
 refine bodyPost_ret (by simp [results,Tryz.results110,go_sem,hc1]<;>rfl) rfl ⟨rfl, ?_⟩
 exact ((((v8 (x4 _ _ _ _) hb1).setCell (by simp;omega) _).setCell (by simp;omega) _).setCell (by simp;omega) _)
end
section
theorem join_none (op:Int) (x y:V) (h5:¬op=5) (h6:¬op=6) (h7:¬op=7) (h8:¬op=8) (h9:¬op=9) (h12:¬op=12) (h10:¬op=10) (h13:¬op=13) (h11:¬op=11) (h14:¬op=14) (h16:¬op=16) (h15:¬op=15) (h17:¬op=17) (h18:¬op=18) (h19:¬op=19):qj9 op x y (bV (x.kind==0)):=by
 intro w
 have CON:=v7 (fun w=>vy4 x w)
 have e5:(op==5)=false:=beq_eq_false_iff_ne.2 h5
 have e6:(op==6)=false:=beq_eq_false_iff_ne.2 h6
 have e7:(op==7)=false:=beq_eq_false_iff_ne.2 h7
 have e8:(op==8)=false:=beq_eq_false_iff_ne.2 h8
 have e9:(op==9)=false:=beq_eq_false_iff_ne.2 h9
 have e12:(op==12)=false:=beq_eq_false_iff_ne.2 h12
 have e10:(op==10)=false:=beq_eq_false_iff_ne.2 h10
 have e13:(op==13)=false:=beq_eq_false_iff_ne.2 h13
 have e11:(op==11)=false:=beq_eq_false_iff_ne.2 h11
 have e14:(op==14)=false:=beq_eq_false_iff_ne.2 h14
 have e16:(op==16)=false:=beq_eq_false_iff_ne.2 h16
 have e15:(op==15)=false:=beq_eq_false_iff_ne.2 h15
 have e17:(op==17)=false:=beq_eq_false_iff_ne.2 h17
 have e18:(op==18)=false:=beq_eq_false_iff_ne.2 h18
 have e19:(op==19)=false:=beq_eq_false_iff_ne.2 h19
 clear h5 h6 h7 h8 h9 h12 h10 h13 h11 h14 h16 h15 h17 h18 h19
 obtain ⟨r,hr⟩:∃r,bV (x.kind==0)=r:=⟨_,rfl⟩
 rw [hr] at CON ⊢
 clear hr
 conv=>arg 3;simp only [vV]
 go_enter Tryz.func110,Tryz.ntmps110
 repeat ((fail_if_success (with_reducible refine wp_exit ?_));go_step)
 with_reducible refine wp_exit ?_
 repeat (first|(with_reducible refine qe9 ?_)|(with_reducible refine qb8 ?_)|((with_reducible refine qb0 ?hne ?_);(case hne=>rfl)))
 with_reducible refine qb9 ?_
 go_wp2_with (go_at_call 163;refine (q9 CON _).mono ?_;rintro e w1 ⟨rfl,hb1⟩;obtain ⟨hc1,hf1⟩:=v9 hb1;have hz1:w.heap.size+2<w1.heap.size:=(by have:=hb1.size;simp at this;omega);simp only [vV])
 refine bodyPost_ret (by simp [results,Tryz.results110,go_sem,hc1]<;>rfl) rfl ⟨rfl, ?_⟩
 exact ((((v8 (x4 _ _ _ _) hb1).setCell (by simp;omega) _).setCell (by simp;omega) _).setCell (by simp;omega) _)
end
section
theorem join_all (op:Int) (h14:¬op=14) (h15:¬op=15) (x y:V) (hx:Rng x.num) (hy:Rng y.num):qj9 op x y (va1 op x y):=by
 by_cases h5:op=5
 ·subst h5;exact join_5 x y
 by_cases h6:op=6
 ·subst h6;exact join_6 x y
 by_cases h7:op=7
 ·subst h7;exact join_7 x y
 by_cases h8:op=8
 ·subst h8;exact join_8 x y
 by_cases h9:op=9
 ·subst h9;exact join_9 x y
 by_cases h12:op=12
 ·subst h12;exact join_12 x y
 by_cases h10:op=10
 ·subst h10;exact join_10 x y
 by_cases h13:op=13
 ·subst h13;exact join_13 x y
 by_cases h11:op=11
 ·subst h11;exact join_11 x y
 by_cases h16:op=16
 ·subst h16;exact join_16 x y hx hy
 by_cases h17:op=17
 ·subst h17;exact join_17 x y hx hy
 by_cases h18:op=18
 ·subst h18;exact join_18 x y hx hy
 by_cases h19:op=19
 ·subst h19;exact join_19 x y hx
 have hr:va1 op x y=bV (x.kind==0):=by
  rw [va1,if_neg h5,if_neg h6,if_neg h7,if_neg h8,if_neg h9,if_neg h12,if_neg h10,if_neg h13,if_neg h11,if_neg h14,if_neg h16,if_neg h15,if_neg h17,if_neg h18,if_neg h19]
 rw [hr]
 exact join_none op x y h5 h6 h7 h8 h9 h12 h10 h13 h11 h14 h16 h15 h17 h18 h19
end
section
theorem qu4 {id:Nat} {Q:Exit→Act→World→Prop} {a:Act} {w:World} (h:Q .normal a w):Exit.inBlock id Q .normal a w:=h
end
section
structure SignAt (w W2:World) (x:V):Prop where
 a0:W2.cell? ⟨w.heap.size,0,none⟩=some (.int .i64 (iV 0).kind)
 a1:W2.cell? ⟨w.heap.size,1,none⟩=some (.int .i64 (iV 0).num)
 a2:W2.cell? ⟨w.heap.size,2,none⟩=some (.string (BS (iV 0).str))
 b0:W2.cell? ⟨w.heap.size+1,0,none⟩=some (.int .i64 x.kind)
 b1:W2.cell? ⟨w.heap.size+1,1,none⟩=some (.int .i64 x.num)
 b2:W2.cell? ⟨w.heap.size+1,2,none⟩=some (.string (BS x.str))
 r0:W2.cell? ⟨w.heap.size+2,0,none⟩=some (.int .i64 0)
 r1:W2.cell? ⟨w.heap.size+2,1,none⟩=some (.int .i64 0)
 r2:W2.cell? ⟨w.heap.size+2,2,none⟩=some (.string ⟨#[]⟩)
 fz:∀j,W2.frozen? ⟨w.heap.size+2,j,none⟩=false
 lt:w.heap.size+2<W2.heap.size
 below:Below w.heap.size w W2
theorem vf7 (w w0 W2:World) (x y:V) (hb:Below ((((w.alloc (.cells #[.int .i64 x.kind,.int .i64 x.num,.string (BS x.str)] 26)).alloc (.cells #[.int .i64 y.kind,.int .i64 y.num,.string (BS y.str)] 26)).alloc (.cells #[.int .i64 0,.int .i64 0,.string ⟨#[]⟩] 26)).drew).heap.size ((((w.alloc (.cells #[.int .i64 x.kind,.int .i64 x.num,.string (BS x.str)] 26)).alloc (.cells #[.int .i64 y.kind,.int .i64 y.num,.string (BS y.str)] 26)).alloc (.cells #[.int .i64 0,.int .i64 0,.string ⟨#[]⟩] 26)).drew) w0) (h2:((((((w0.setCell ⟨w.heap.size,0,none⟩ (.int .i64 (iV 0).kind)).setCell ⟨w.heap.size,1,none⟩ (.int .i64 (iV 0).num)).setCell ⟨w.heap.size,2,none⟩ (.string (BS (iV 0).str))).setCell ⟨w.heap.size+1,0,none⟩ (.int .i64 x.kind)).setCell ⟨w.heap.size+1,1,none⟩ (.int .i64 x.num)).setCell ⟨w.heap.size+1,2,none⟩ (.string (BS x.str)))=W2):SignAt w W2 x:=by
 subst h2
 have hz:=hb.size
 simp at hz
 obtain ⟨hc,hf⟩:=v9 hb
 have x0:=(hc w.heap.size 0 (by simp;omega)).trans (show _=some (.int .i64 x.kind) by rw [World.cell?_drew,World.cell?_alloc_past _ _ _ (by simp;omega),World.cell?_alloc_past _ _ _ (by simp),World.cell?_alloc_at _ _ _ _ rfl];rfl)
 have x1:=(hc w.heap.size 1 (by simp;omega)).trans (show _=some (.int .i64 x.num) by rw [World.cell?_drew,World.cell?_alloc_past _ _ _ (by simp;omega),World.cell?_alloc_past _ _ _ (by simp),World.cell?_alloc_at _ _ _ _ rfl];rfl)
 have x2:=(hc w.heap.size 2 (by simp;omega)).trans (show _=some (.string (BS x.str)) by rw [World.cell?_drew,World.cell?_alloc_past _ _ _ (by simp;omega),World.cell?_alloc_past _ _ _ (by simp),World.cell?_alloc_at _ _ _ _ rfl];rfl)
 have y0:=(hc (w.heap.size+1) 0 (by simp)).trans (show _=some (.int .i64 y.kind) by rw [World.cell?_drew,World.cell?_alloc_past _ _ _ (by simp),World.cell?_alloc_at _ _ _ _ (by simp)];rfl)
 have y1:=(hc (w.heap.size+1) 1 (by simp)).trans (show _=some (.int .i64 y.num) by rw [World.cell?_drew,World.cell?_alloc_past _ _ _ (by simp),World.cell?_alloc_at _ _ _ _ (by simp)];rfl)
 have y2:=(hc (w.heap.size+1) 2 (by simp)).trans (show _=some (.string (BS y.str)) by rw [World.cell?_drew,World.cell?_alloc_past _ _ _ (by simp),World.cell?_alloc_at _ _ _ _ (by simp)];rfl)
 have z0:=(hc (w.heap.size+2) 0 (by simp)).trans (show _=some (.int .i64 0) by rw [World.cell?_drew,World.cell?_alloc_at _ _ _ _ (by simp)];rfl)
 have z1:=(hc (w.heap.size+2) 1 (by simp)).trans (show _=some (.int .i64 0) by rw [World.cell?_drew,World.cell?_alloc_at _ _ _ _ (by simp)];rfl)
 have z2:=(hc (w.heap.size+2) 2 (by simp)).trans (show _=some (.string ⟨#[]⟩) by rw [World.cell?_drew,World.cell?_alloc_at _ _ _ _ (by simp)];rfl)
 have zf:∀j,w0.frozen? ⟨w.heap.size+2,j,none⟩=false:=fun j=>(hf (w.heap.size+2) j (by simp)).trans (by rw [World.frozen?_drew,World.frozen?_alloc_at _ _ _ _ (by simp)])
 refine ⟨?_, ?_, ?_, ?_, ?_, ?_, ?_, ?_, ?_,fun j=>?_, ?_, ?_⟩
 ·simp [go_sem,x0]
 ·simp [go_sem,x1]
 ·simp [go_sem,x2]
 ·simp [go_sem,y0]
 ·simp [go_sem,y1]
 ·simp [go_sem,y2]
 ·simp [go_sem,z0]
 ·simp [go_sem,z1]
 ·simp [go_sem,z2]
 ·simp [go_sem,zf]
 ·simp;omega
 ·exact (((((((v8 ((x4 w _ _ _).drew) hb).setCell (by simp) _).setCell (by simp) _).setCell (by simp) _).setCell (by simp) _).setCell (by simp) _).setCell (by simp) _)
end
section
theorem join_14 (x y:V) (hx:Rng x.num):qj9 14 x y (vk4 (iV 0) x):=by
 intro w
 have CON:=v7 (fun w=>ja9 (iV 0) x rng0 hx w)
 obtain ⟨r,hr⟩:∃r,vk4 (iV 0) x=r:=⟨_,rfl⟩
 rw [hr] at CON ⊢
 clear hr hx
 conv=>arg 3;simp only [vV]
 go_enter Tryz.func110,Tryz.ntmps110
 repeat ((fail_if_success (with_reducible refine wp_exit ?_));go_step)
 with_reducible refine wp_exit ?_
 repeat (first|(with_reducible refine qe9 ?_)|(with_reducible refine qb8 ?_)|((with_reducible refine qb0 ?hne ?_);(case hne=>rfl)))
 with_reducible refine qb9 ?_
 go_wp2_with fail
 go_region_with (go_at_call 62;refine (qp7 0 _).mono ?_;rintro e w0 ⟨rfl,hb0⟩;obtain ⟨hc0,hf0⟩:=v9 hb0;have hz0:w.heap.size+2<w0.heap.size:=(by have:=hb0.size;simp at this;omega);simp only [vV])
 all_goals (repeat (first|(with_reducible refine qu4 ?_)|(with_reducible refine qb9 ?_)))
 all_goals
  generalize hW2:World.setCell _ _ _=W2
  have SG:=v7 (vf7 w w0 W2 x y hb0 hW2)
  obtain ⟨a0,a1,a2,b0,b1,b2,r0,r1,r2,fz,lt,bel⟩:=q9 SG
  clear hW2 hb0 hc0 hf0
  go_wp2_with (go_at_call 159;refine (q9 CON _).mono ?_;rintro e w1 ⟨rfl,hb1⟩;have s0:w1.cell? ⟨w.heap.size+2,0,none⟩=some (.int .i64 0):=((v9 hb1).1 _ 0 lt).trans r0;have s1:w1.cell? ⟨w.heap.size+2,1,none⟩=some (.int .i64 0):=((v9 hb1).1 _ 1 lt).trans r1;have s2:w1.cell? ⟨w.heap.size+2,2,none⟩=some (.string ⟨#[]⟩):=((v9 hb1).1 _ 2 lt).trans r2;have f1:∀j,w1.frozen? ⟨w.heap.size+2,j,none⟩=false:=(fun j=>((v9 hb1).2 _ j lt).trans (fz j));have hB1:=v7 (v8 bel hb1);clear hb1;simp only [vV])
  refine bodyPost_ret (by simp [results,Tryz.results110,go_sem,s0,s1,s2]<;>rfl) rfl ⟨rfl, ?_⟩
  exact (((q9 hB1).setCell (by simp;omega) _).setCell (by simp;omega) _).setCell (by simp;omega) _
end
section
theorem join_15 (x y:V) (hx:Rng x.num):qj9 15 x y (vk6 (iV 0) x):=by
 intro w
 have CON:=v7 (fun w=>qx4 (iV 0) x rng0 hx w)
 obtain ⟨r,hr⟩:∃r,vk6 (iV 0) x=r:=⟨_,rfl⟩
 rw [hr] at CON ⊢
 clear hr hx
 conv=>arg 3;simp only [vV]
 go_enter Tryz.func110,Tryz.ntmps110
 repeat ((fail_if_success (with_reducible refine wp_exit ?_));go_step)
 with_reducible refine wp_exit ?_
 repeat (first|(with_reducible refine qe9 ?_)|(with_reducible refine qb8 ?_)|((with_reducible refine qb0 ?hne ?_);(case hne=>rfl)))
 with_reducible refine qb9 ?_
 go_wp2_with fail
 go_region_with (go_at_call 62;refine (qp7 0 _).mono ?_;rintro e w0 ⟨rfl,hb0⟩;obtain ⟨hc0,hf0⟩:=v9 hb0;have hz0:w.heap.size+2<w0.heap.size:=(by have:=hb0.size;simp at this;omega);simp only [vV])
 all_goals (repeat (first|(with_reducible refine qu4 ?_)|(with_reducible refine qb9 ?_)))
 all_goals
  generalize hW2:World.setCell _ _ _=W2
  have SG:=v7 (vf7 w w0 W2 x y hb0 hW2)
  obtain ⟨a0,a1,a2,b0,b1,b2,r0,r1,r2,fz,lt,bel⟩:=q9 SG
  clear hW2 hb0 hc0 hf0
  go_wp2_with (go_at_call 160;refine (q9 CON _).mono ?_;rintro e w1 ⟨rfl,hb1⟩;have s0:w1.cell? ⟨w.heap.size+2,0,none⟩=some (.int .i64 0):=((v9 hb1).1 _ 0 lt).trans r0;have s1:w1.cell? ⟨w.heap.size+2,1,none⟩=some (.int .i64 0):=((v9 hb1).1 _ 1 lt).trans r1;have s2:w1.cell? ⟨w.heap.size+2,2,none⟩=some (.string ⟨#[]⟩):=((v9 hb1).1 _ 2 lt).trans r2;have f1:∀j,w1.frozen? ⟨w.heap.size+2,j,none⟩=false:=(fun j=>((v9 hb1).2 _ j lt).trans (fz j));have hB1:=v7 (v8 bel hb1);clear hb1;simp only [vV])
  refine bodyPost_ret (by simp [results,Tryz.results110,go_sem,s0,s1,s2]<;>rfl) rfl ⟨rfl, ?_⟩
  exact (((q9 hB1).setCell (by simp;omega) _).setCell (by simp;omega) _).setCell (by simp;omega) _
end
section
theorem vd6 (rb:Nat) (s:ByteArray) (hs:s.size≤200) (op m:Nat) (hm:200≤m) (hm':m≤900) (f:St→Res) (hf:RReads 351 rb s op m f):RReads 342 rb s op (m+1) (qe2 s f [24,25]):=by
 intro w st ns j h ho
 have HF:=v7 hf
 have HC:=v7 (hf w st ns j h ho)
 obtain ⟨R,hR⟩:∃r,qe2 s f [24,25] st=r:=⟨_,rfl⟩
 rw [hR]
 have HR:=v7 hR
 clear hf h hR
 go_enter Tryz.func342,Tryz.ntmps342
 go_wp2_with (go_at_call 351;refine (q9 HC).mono ?_;rintro e w1 h1;have H1:Hid (∃v,e=.returned v∧RowAt rb s w op (m+1) ns j st.place R f [24,25] v w1):=v7 (by
   obtain ⟨hk1,h1⟩:=h1
   rw [←q9 HR]
   cases hres:f st with
   | ok l0 st0=>rw [hres] at h1;obtain ⟨new,rfl,hr1,ho1,hp1,hfl⟩:=h1;exact ⟨_,rfl,hk1,.inl ⟨s.size+1,l0,st0,new,qm4 hres,by omega,rfl,hr1,ho1,hp1,hfl⟩⟩
   | err en pl=>rw [hres] at h1;obtain ⟨i,rfl,hr1⟩:=h1;exact ⟨_,rfl,hk1,.inr ⟨en,pl,i,qj4 hres,rfl,hr1.more (by omega)⟩⟩);clear h1;obtain ⟨v1,rfl,h1⟩:=q9 H1;have HA1:=v7 h1;clear H1 h1)
 go_loopw [3] (fun v wr=>Hid (RowAt rb s w op (m+1) ns j st.place R f [24,25] v wr)) (fun v wr=>meT s wr rb)
 case atStart=>exact HA1
 case round=>
  obtain ⟨hk,hc⟩:=q9 hrel
  rcases hc with ⟨n,l,sl,new,hRl,hn,rfl,hrl,hol,hpl,hfl⟩|⟨en,pl,i,hRl,rfl,hre⟩
  ·have hfine:=hrl.fine
   have hfp:=hfine.place
   have hltr:=hrl.lt
   obtain ⟨c2,c3,c4,c5,c6⟩:=hrl.ct
   have c8:=hrl.c8
   have hmu:=qu7 hrl
   obtain ⟨mm,rfl⟩:∃mm,n=mm+1:=⟨n - 1,by omega⟩
   have HRl:=v7 hrl
   have HK:=v7 hk
   have HFL:=v7 hfl
   have HMU:=v7 hmu
   clear hrl hk hfl hmu hrel HA1
   by_cases hk24:sl.tk.kind=24
   ·have hi24:(rK sl.tk.kind==5&&((BS (tkS sl)).toList==(⟨#[42]⟩:ByteArray).toList))=true:=(isK (c:=24) rfl (by decide) (by decide) 5 rfl).trans (by rw [hk24];rfl)
    have hcon:([24,25]:List Int).contains sl.tk.kind=true:=by rw [hk24];rfl
    have hpp:=hfine.step_place (by omega)
    rw [show rK sl.tk.kind=5 by rw [hk24];rfl] at c2
    rw [show tkZ sl=(sl.after:Int) by unfold tkZ;rw [if_neg (by omega)]] at c4
    rw [show BS (tkS sl)=⟨#[42]⟩ by rw [vs2 (by omega),hk24];rfl] at c5
    have hfr:=(q9 HRl).fresh (.cells #[.int .i64 5,.int .i64 sl.place,.int .i64 sl.after,.string ⟨#[42]⟩,.int .i64 (tkN sl)] 235)
    have h':=(q9 HRl).alloc (.cells #[.int .i64 5,.int .i64 sl.place,.int .i64 sl.after,.string ⟨#[42]⟩,.int .i64 (tkN sl)] 235)
    have n0:¬wr.heap.size=rb:=by omega
    have n1:¬rb=wr.heap.size:=by omega
    have FR:=v7 hfr
    have H':=v7 h'
    clear hfr h'
    cases hres:f (v6 s sl) with
    | ok r st2=>
     have HRR:Hid (R=qa7 s f [24,25] mm (vm6 sl l r) st2):=v7 (by rw [hRl,qf1 hcon (qf8 hres)])
     have HRES:=v7 hres
     clear hcon hRl hres
     go_wp2_with (first|(go_at_call 215;refine (qg2 (q9 HRl)).mono ?_;rintro e w' ⟨rfl,hw'⟩;subst w';simp only [hi24])|(go_at_call 172;refine (j7 (q9 H') hs (by omega) (by omega)).mono ?_;rintro e w2 ⟨rfl,hk2,hr2⟩;obtain ⟨hc,hf,_,hno,hL⟩:=hk2.mine (by simp) (q9 FR);have p1:w2.cell? ⟨wr.heap.size,1,none⟩=some (.int .i64 sl.place):=(hc 1).trans (by simp);have p3:w2.cell? ⟨wr.heap.size,3,none⟩=some (.string ⟨#[42]⟩):=(hc 3).trans (by simp);have HO2:=v7 hno;have HK2:=v7 (qf0 hltr hk2);have HR2:=v7 hr2;clear hk2 hr2 hc hf hno)|(go_at_call 351;refine (q9 HF _ (v6 s sl) (ns++new) (j+1) (q9 HR2) hol).mono ?_;rintro e w3 ⟨hk3,h3⟩;rw [q9 HRES] at h3;obtain ⟨new3,rfl,hr3,ho3,hp3,hfl3⟩:=h3;have HFL3:=v7 hfl3;clear hfl3;obtain ⟨hc,hf,_,hno,hL2⟩:=hk3.mine hL (q9 HO2);have q1:w3.cell? ⟨wr.heap.size,1,none⟩=some (.int .i64 sl.place):=(hc 1).trans p1;have q3:w3.cell? ⟨wr.heap.size,3,none⟩=some (.string ⟨#[42]⟩):=(hc 3).trans p3;have HK3:=v7 hk3;have HR3:=v7 hr3;clear hk3 hr3 hc hf hno)|(go_at_call 216;refine (qr9 (q9 HR3) hs ⟨qu8 sl.tk.kind,sl.place,0,[],[],[]⟩ (ns.length+new.length - 1) (ns.length+new.length+new3.length - 1) (by rw [hk24];rfl) rfl rfl rfl (by simp)).mono ?_;rintro e w4 ⟨rfl,hk4,hr4⟩;have hf4:=hr4.fine.place;have HMU4:=v7 (qu7 hr4);have HK4:=v7 hk4;have HR4:=v7 hr4;clear hk4 hr4))
     go_roundw
     case rel=>
      refine v7 ⟨(((q9 HK).trans (q9 HK2)).trans (q9 HK3)).trans (q9 HK4),.inl ⟨mm,_,st2,new++new3++[qi3 ⟨qu8 sl.tk.kind,sl.place,0,[],[],[]⟩ [ns.length+new.length - 1,ns.length+new.length+new3.length - 1] false],q9 HRR,by omega,ve9 (by simp;omega), ?_,ho3,by omega,Flat.bin _ (q9 HFL) (by have:=q9 HFL3;rwa [List.length_append] at this)⟩⟩
      have:=q9 HR4
      simpa only [List.append_assoc] using this
     case measure=>rw [q9 HMU,q9 HMU4];omega
    | err en pl=>
     have HRR:Hid (R=.err en pl):=v7 (by rw [hRl,qg5 hcon (qe5 hres)])
     have HRES:=v7 hres
     clear hcon hRl hres
     go_wp2_with (first|(go_at_call 215;refine (qg2 (q9 HRl)).mono ?_;rintro e w' ⟨rfl,hw'⟩;subst w';simp only [hi24])|(go_at_call 172;refine (j7 (q9 H') hs (by omega) (by omega)).mono ?_;rintro e w2 ⟨rfl,hk2,hr2⟩;obtain ⟨hc,hf,_,hno,hL⟩:=hk2.mine (by simp) (q9 FR);have p1:w2.cell? ⟨wr.heap.size,1,none⟩=some (.int .i64 sl.place):=(hc 1).trans (by simp);have p3:w2.cell? ⟨wr.heap.size,3,none⟩=some (.string ⟨#[42]⟩):=(hc 3).trans (by simp);have HO2:=v7 hno;have HK2:=v7 (qf0 hltr hk2);have HR2:=v7 hr2;clear hk2 hr2 hc hf hno)|(go_at_call 351;refine (q9 HF _ (v6 s sl) (ns++new) (j+1) (q9 HR2) hol).mono ?_;rintro e w3 ⟨hk3,h3⟩;rw [q9 HRES] at h3;obtain ⟨i3,rfl,hr3⟩:=h3;obtain ⟨hc,hf,_,hno,hL2⟩:=hk3.mine hL (q9 HO2);have q1:w3.cell? ⟨wr.heap.size,1,none⟩=some (.int .i64 sl.place):=(hc 1).trans p1;have q3:w3.cell? ⟨wr.heap.size,3,none⟩=some (.string ⟨#[42]⟩):=(hc 3).trans p3;have HK3:=v7 hk3;have HR3:=v7 hr3;clear hk3 hr3 hc hf hno)|(go_at_call 216;refine (qn6 (q9 HR3) (by omega) [42] sl.place (ns.length+new.length - 1) i3 rfl (by simp)).mono ?_;rintro e w4 ⟨i4,rfl,hk4,hr4⟩;have HMU4:=v7 (vp5 hr4);have HK4:=v7 hk4;have HR4:=v7 hr4;clear hk4 hr4))
     go_roundw
     case rel=>exact v7 ⟨(((q9 HK).trans (q9 HK2)).trans (q9 HK3)).trans (q9 HK4),.inr ⟨en,pl,i4,q9 HRR,rfl,q9 HR4⟩⟩
     case measure=>rw [q9 HMU,q9 HMU4];omega
   ·have nq24:¬sl.tk.kind=24:=hk24
    have hi24:(rK sl.tk.kind==5&&((BS (tkS sl)).toList==(⟨#[42]⟩:ByteArray).toList))=false:=(isK (c:=24) rfl (by decide) (by decide) 5 rfl).trans (beq_eq_false_iff_ne.2 hk24)
    by_cases hk25:sl.tk.kind=25
    ·have hi25:(rK sl.tk.kind==5&&((BS (tkS sl)).toList==(⟨#[47]⟩:ByteArray).toList))=true:=(isK (c:=25) rfl (by decide) (by decide) 5 rfl).trans (by rw [hk25];rfl)
     have hcon:([24,25]:List Int).contains sl.tk.kind=true:=by rw [hk25];rfl
     have hpp:=hfine.step_place (by omega)
     rw [show rK sl.tk.kind=5 by rw [hk25];rfl] at c2
     rw [show tkZ sl=(sl.after:Int) by unfold tkZ;rw [if_neg (by omega)]] at c4
     rw [show BS (tkS sl)=⟨#[47]⟩ by rw [vs2 (by omega),hk25];rfl] at c5
     have hfr:=(q9 HRl).fresh (.cells #[.int .i64 5,.int .i64 sl.place,.int .i64 sl.after,.string ⟨#[47]⟩,.int .i64 (tkN sl)] 235)
     have h':=(q9 HRl).alloc (.cells #[.int .i64 5,.int .i64 sl.place,.int .i64 sl.after,.string ⟨#[47]⟩,.int .i64 (tkN sl)] 235)
     have n0:¬wr.heap.size=rb:=by omega
     have n1:¬rb=wr.heap.size:=by omega
     have FR:=v7 hfr
     have H':=v7 h'
     clear hfr h'
     cases hres:f (v6 s sl) with
     | ok r st2=>
      have HRR:Hid (R=qa7 s f [24,25] mm (vm6 sl l r) st2):=v7 (by rw [hRl,qf1 hcon (qf8 hres)])
      have HRES:=v7 hres
      clear hcon hRl hres
      go_wp2_with (first|(go_at_call 215;refine (qg2 (q9 HRl)).mono ?_;rintro e w' ⟨rfl,hw'⟩;subst w';simp only [hi24,hi25])|(go_at_call 172;refine (j7 (q9 H') hs (by omega) (by omega)).mono ?_;rintro e w2 ⟨rfl,hk2,hr2⟩;obtain ⟨hc,hf,_,hno,hL⟩:=hk2.mine (by simp) (q9 FR);have p1:w2.cell? ⟨wr.heap.size,1,none⟩=some (.int .i64 sl.place):=(hc 1).trans (by simp);have p3:w2.cell? ⟨wr.heap.size,3,none⟩=some (.string ⟨#[47]⟩):=(hc 3).trans (by simp);have HO2:=v7 hno;have HK2:=v7 (qf0 hltr hk2);have HR2:=v7 hr2;clear hk2 hr2 hc hf hno)|(go_at_call 351;refine (q9 HF _ (v6 s sl) (ns++new) (j+1) (q9 HR2) hol).mono ?_;rintro e w3 ⟨hk3,h3⟩;rw [q9 HRES] at h3;obtain ⟨new3,rfl,hr3,ho3,hp3,hfl3⟩:=h3;have HFL3:=v7 hfl3;clear hfl3;obtain ⟨hc,hf,_,hno,hL2⟩:=hk3.mine hL (q9 HO2);have q1:w3.cell? ⟨wr.heap.size,1,none⟩=some (.int .i64 sl.place):=(hc 1).trans p1;have q3:w3.cell? ⟨wr.heap.size,3,none⟩=some (.string ⟨#[47]⟩):=(hc 3).trans p3;have HK3:=v7 hk3;have HR3:=v7 hr3;clear hk3 hr3 hc hf hno)|(go_at_call 216;refine (qr9 (q9 HR3) hs ⟨qu8 sl.tk.kind,sl.place,0,[],[],[]⟩ (ns.length+new.length - 1) (ns.length+new.length+new3.length - 1) (by rw [hk25];rfl) rfl rfl rfl (by simp)).mono ?_;rintro e w4 ⟨rfl,hk4,hr4⟩;have hf4:=hr4.fine.place;have HMU4:=v7 (qu7 hr4);have HK4:=v7 hk4;have HR4:=v7 hr4;clear hk4 hr4))
      go_roundw
      case rel=>
       refine v7 ⟨(((q9 HK).trans (q9 HK2)).trans (q9 HK3)).trans (q9 HK4),.inl ⟨mm,_,st2,new++new3++[qi3 ⟨qu8 sl.tk.kind,sl.place,0,[],[],[]⟩ [ns.length+new.length - 1,ns.length+new.length+new3.length - 1] false],q9 HRR,by omega,ve9 (by simp;omega), ?_,ho3,by omega,Flat.bin _ (q9 HFL) (by have:=q9 HFL3;rwa [List.length_append] at this)⟩⟩
       have:=q9 HR4
       simpa only [List.append_assoc] using this
      case measure=>rw [q9 HMU,q9 HMU4];omega
     | err en pl=>
      have HRR:Hid (R=.err en pl):=v7 (by rw [hRl,qg5 hcon (qe5 hres)])
      have HRES:=v7 hres
      clear hcon hRl hres
      go_wp2_with (first|(go_at_call 215;refine (qg2 (q9 HRl)).mono ?_;rintro e w' ⟨rfl,hw'⟩;subst w';simp only [hi24,hi25])|(go_at_call 172;refine (j7 (q9 H') hs (by omega) (by omega)).mono ?_;rintro e w2 ⟨rfl,hk2,hr2⟩;obtain ⟨hc,hf,_,hno,hL⟩:=hk2.mine (by simp) (q9 FR);have p1:w2.cell? ⟨wr.heap.size,1,none⟩=some (.int .i64 sl.place):=(hc 1).trans (by simp);have p3:w2.cell? ⟨wr.heap.size,3,none⟩=some (.string ⟨#[47]⟩):=(hc 3).trans (by simp);have HO2:=v7 hno;have HK2:=v7 (qf0 hltr hk2);have HR2:=v7 hr2;clear hk2 hr2 hc hf hno)|(go_at_call 351;refine (q9 HF _ (v6 s sl) (ns++new) (j+1) (q9 HR2) hol).mono ?_;rintro e w3 ⟨hk3,h3⟩;rw [q9 HRES] at h3;obtain ⟨i3,rfl,hr3⟩:=h3;obtain ⟨hc,hf,_,hno,hL2⟩:=hk3.mine hL (q9 HO2);have q1:w3.cell? ⟨wr.heap.size,1,none⟩=some (.int .i64 sl.place):=(hc 1).trans p1;have q3:w3.cell? ⟨wr.heap.size,3,none⟩=some (.string ⟨#[47]⟩):=(hc 3).trans p3;have HK3:=v7 hk3;have HR3:=v7 hr3;clear hk3 hr3 hc hf hno)|(go_at_call 216;refine (qn6 (q9 HR3) (by omega) [47] sl.place (ns.length+new.length - 1) i3 rfl (by simp)).mono ?_;rintro e w4 ⟨i4,rfl,hk4,hr4⟩;have HMU4:=v7 (vp5 hr4);have HK4:=v7 hk4;have HR4:=v7 hr4;clear hk4 hr4))
      go_roundw
      case rel=>exact v7 ⟨(((q9 HK).trans (q9 HK2)).trans (q9 HK3)).trans (q9 HK4),.inr ⟨en,pl,i4,q9 HRR,rfl,q9 HR4⟩⟩
      case measure=>rw [q9 HMU,q9 HMU4];omega
    ·have nq25:¬sl.tk.kind=25:=hk25
     have hi25:(rK sl.tk.kind==5&&((BS (tkS sl)).toList==(⟨#[47]⟩:ByteArray).toList))=false:=(isK (c:=25) rfl (by decide) (by decide) 5 rfl).trans (beq_eq_false_iff_ne.2 hk25)
     have hcon:([24,25]:List Int).contains sl.tk.kind=false:=by simp [nq24,nq25]
     have HRR:Hid (R=.ok l sl):=v7 (by rw [hRl,qh1 hcon])
     clear hcon hRl
     go_wp2_with (first|(go_at_call 215;refine (qg2 (q9 HRl)).mono ?_;rintro e w' ⟨rfl,hw'⟩;subst w';simp only [hi24,hi25]))
     go_ret
     rw [q9 HRR]
     exact ⟨q9 HK,new,rfl,q9 HRl,hol,hpl,q9 HFL⟩
  ·obtain ⟨c8,hen⟩:=hre.c8
   have HRe:=v7 hre
   have HK:=v7 hk
   clear hre hk hrel HA1
   go_wp2_with fail
   go_ret
   rw [hRl]
   exact ⟨q9 HK,i,rfl,q9 HRe⟩
end
section
theorem ror_any (x y:V) (w:World):Calls Tryz.prog 221 #[vV x,vV y] w fun e w'=>e=.returned (vV (orV x y))∧Below w.heap.size w w':=by
 have ex:=fun w=>qr3 x (bV true) w
 have ey:=fun w=>qr3 y (bV true) w
 have fx:=fun w=>qr3 x (bV false) w
 have fy:=fun w=>qr3 y (bV false) w
 simp only [vV] at ex ey fx fy
 unfold orV
 generalize decide (x=bV true)=a at *
 generalize decide (y=bV true)=b at *
 generalize decide (x=bV false)=c at *
 generalize decide (y=bV false)=d at *
 generalize hW0:((w.alloc (.cells #[.int .i64 x.kind,.int .i64 x.num,.string (BS x.str)] 26)).alloc (.cells #[.int .i64 y.kind,.int .i64 y.num,.string (BS y.str)] 26)).alloc (.cells #[.int .i64 0,.int .i64 0,.string ⟨#[]⟩] 26)=W0
 have hbase:Below w.heap.size w W0:=by rw [←hW0];exact x4 _ _ _ _
 have hsz:W0.heap.size=w.heap.size+3:=by rw [←hW0];simp
 have x0:W0.cell? ⟨w.heap.size,0,none⟩=some (.int .i64 x.kind):=by rw [←hW0,World.cell?_alloc_past _ _ _ (by simp;omega),World.cell?_alloc_past _ _ _ (by simp)];simp
 have x1:W0.cell? ⟨w.heap.size,1,none⟩=some (.int .i64 x.num):=by rw [←hW0,World.cell?_alloc_past _ _ _ (by simp;omega),World.cell?_alloc_past _ _ _ (by simp)];simp
 have x2:W0.cell? ⟨w.heap.size,2,none⟩=some (.string (BS x.str)):=by rw [←hW0,World.cell?_alloc_past _ _ _ (by simp;omega),World.cell?_alloc_past _ _ _ (by simp)];simp
 have y0:W0.cell? ⟨w.heap.size+1,0,none⟩=some (.int .i64 y.kind):=by rw [←hW0,World.cell?_alloc_past _ _ _ (by simp)];simp
 have y1:W0.cell? ⟨w.heap.size+1,1,none⟩=some (.int .i64 y.num):=by rw [←hW0,World.cell?_alloc_past _ _ _ (by simp)];simp
 have y2:W0.cell? ⟨w.heap.size+1,2,none⟩=some (.string (BS y.str)):=by rw [←hW0,World.cell?_alloc_past _ _ _ (by simp)];simp
 have z0:W0.cell? ⟨w.heap.size+2,0,none⟩=some (.int .i64 0):=by rw [←hW0,World.cell?_alloc_at _ _ _ _ (by simp)];rfl
 have z1:W0.cell? ⟨w.heap.size+2,1,none⟩=some (.int .i64 0):=by rw [←hW0,World.cell?_alloc_at _ _ _ _ (by simp)];rfl
 have z2:W0.cell? ⟨w.heap.size+2,2,none⟩=some (.string ⟨#[]⟩):=by rw [←hW0,World.cell?_alloc_at _ _ _ _ (by simp)];rfl
 have zf:∀j,W0.frozen? ⟨w.heap.size+2,j,none⟩=false:=by intro j;rw [←hW0,World.frozen?_alloc_at _ _ _ _ (by simp)]
 have HW:=v7 hW0
 clear hW0
 have HB:Hid (Below W0.heap.size W0 W0.drew):=v7 (Below.refl _ _).drew
 cases a with
 | true=>
  rw [Bool.true_or,if_pos rfl]
  conv=>arg 3;simp only [vV]
  go_enter Tryz.func221,Tryz.ntmps221
  go_wp2_with fail
  rw [q9 HW]
  go_cut [5] (fun s5 wx=>s5=.bool true∧Hid (Below W0.heap.size W0 wx))
  case first=>
   first | go_region_with (go_at_call 132; refine (j8 _ _).mono ?_; rintro e w1 ⟨rfl, hb1⟩; replace HB := v7 (v8 (q9 HB) hb1); obtain ⟨hc1, hf1⟩ := v9 (q9 HB); clear hb1; simp only [vV]) | fail "no region"
   all_goals (go_wp2_with fail;go_meet;exact ⟨rfl,HB⟩)
  case rest=>
   obtain ⟨rfl,hB⟩:=hcut
   obtain ⟨hc,hf⟩:=v9 (q9 hB)
   have hwz:w.heap.size+2<wc.heap.size:=by have:=(q9 hB).size;omega
   have p0:=(hc _ 0 (by omega)).trans z0
   have p1:=(hc _ 1 (by omega)).trans z1
   have p2:=(hc _ 2 (by omega)).trans z2
   have pf:∀j,wc.frozen? ⟨w.heap.size+2,j,none⟩=false:=fun j=>(hf _ j (by omega)).trans (zf j)
   have HBW:=v7 (v8 hbase (q9 hB))
   clear hc hf x0 x1 x2 y0 y1 y2 z0 z1 z2 zf
   go_wp2_with (go_at_call 132;refine (j8 _ _).mono ?_;rintro e w2 ⟨rfl,hb2⟩;have hz2:w.heap.size+2<w2.heap.size:=(by have:=hb2.size;omega);have q0:=((v9 hb2).1 _ 0 hwz).trans p0;have q1:=((v9 hb2).1 _ 1 hwz).trans p1;have q2:=((v9 hb2).1 _ 2 hwz).trans p2;have qf:∀j,w2.frozen? ⟨w.heap.size+2,j,none⟩=false:=(fun j=>((v9 hb2).2 _ j hwz).trans (pf j));have HB2:=v7 (v8 (q9 HBW) hb2);clear hb2;simp only [vV])
   refine bodyPost_ret (by simp [results,Tryz.results221,go_sem,q0,q1,q2]<;>rfl) rfl ⟨rfl, ?_⟩
   exact (((q9 HB2).setCell (by first|omega|(simp<;>omega)) _).setCell (by first|omega|(simp<;>omega)) _).setCell (by first|omega|(simp<;>omega)) _
 | false=>
  cases b with
  | true=>
   rw [Bool.false_or,if_pos rfl]
   conv=>arg 3;simp only [vV]
   go_enter Tryz.func221,Tryz.ntmps221
   go_wp2_with fail
   rw [q9 HW]
   go_cut [5] (fun s5 wx=>s5=.bool true∧Hid (Below W0.heap.size W0 wx))
   case first=>
    first | go_region_with (go_at_call 132; refine (j8 _ _).mono ?_; rintro e w1 ⟨rfl, hb1⟩; replace HB := v7 (v8 (q9 HB) hb1); obtain ⟨hc1, hf1⟩ := v9 (q9 HB); clear hb1; simp only [vV]) | fail "no region"
    all_goals (go_wp2_with fail;go_meet;exact ⟨rfl,HB⟩)
   case rest=>
    obtain ⟨rfl,hB⟩:=hcut
    obtain ⟨hc,hf⟩:=v9 (q9 hB)
    have hwz:w.heap.size+2<wc.heap.size:=by have:=(q9 hB).size;omega
    have p0:=(hc _ 0 (by omega)).trans z0
    have p1:=(hc _ 1 (by omega)).trans z1
    have p2:=(hc _ 2 (by omega)).trans z2
    have pf:∀j,wc.frozen? ⟨w.heap.size+2,j,none⟩=false:=fun j=>(hf _ j (by omega)).trans (zf j)
    have HBW:=v7 (v8 hbase (q9 hB))
    clear hc hf x0 x1 x2 y0 y1 y2 z0 z1 z2 zf
    go_wp2_with (go_at_call 132;refine (j8 _ _).mono ?_;rintro e w2 ⟨rfl,hb2⟩;have hz2:w.heap.size+2<w2.heap.size:=(by have:=hb2.size;omega);have q0:=((v9 hb2).1 _ 0 hwz).trans p0;have q1:=((v9 hb2).1 _ 1 hwz).trans p1;have q2:=((v9 hb2).1 _ 2 hwz).trans p2;have qf:∀j,w2.frozen? ⟨w.heap.size+2,j,none⟩=false:=(fun j=>((v9 hb2).2 _ j hwz).trans (pf j));have HB2:=v7 (v8 (q9 HBW) hb2);clear hb2;simp only [vV])
    refine bodyPost_ret (by simp [results,Tryz.results221,go_sem,q0,q1,q2]<;>rfl) rfl ⟨rfl, ?_⟩
    exact (((q9 HB2).setCell (by first|omega|(simp<;>omega)) _).setCell (by first|omega|(simp<;>omega)) _).setCell (by first|omega|(simp<;>omega)) _
  | false=>
   rw [Bool.false_or,if_neg (by decide)]
   cases c with
   | false=>
    rw [Bool.false_and,if_neg (by decide)]
    conv=>arg 3;simp only [vV]
    go_enter Tryz.func221,Tryz.ntmps221
    go_wp2_with fail
    rw [q9 HW]
    go_cut [5] (fun s5 wx=>s5=.bool false∧Hid (Below W0.heap.size W0 wx))
    case first=>
     first | go_region_with (go_at_call 132; refine (j8 _ _).mono ?_; rintro e w1 ⟨rfl, hb1⟩; replace HB := v7 (v8 (q9 HB) hb1); obtain ⟨hc1, hf1⟩ := v9 (q9 HB); clear hb1; simp only [vV]) | fail "no region"
     all_goals (go_wp2_with fail;go_meet;exact ⟨rfl,HB⟩)
    case rest=>
     obtain ⟨rfl,hB⟩:=hcut
     obtain ⟨hc0,hf0⟩:=v9 (q9 hB)
     replace HB:=v7 (q9 hB).drew
     go_wp2_with fail
     go_cut [15] (fun s15 wx=>s15=.bool false∧Hid (Below W0.heap.size W0 wx))
     case first=>
      first | go_region_with (go_at_call 132; refine (j8 _ _).mono ?_; rintro e w1 ⟨rfl, hb1⟩; replace HB := v7 (v8 (q9 HB) hb1); obtain ⟨hc1, hf1⟩ := v9 (q9 HB); clear hb1; simp only [vV]) | fail "no region"
      all_goals (go_wp2_with fail;go_meet;exact ⟨rfl,HB⟩)
     case rest=>
      clear hB hc0 hf0 HB
      obtain ⟨rfl,hB⟩:=hcut
      obtain ⟨hc,hf⟩:=v9 (q9 hB)
      have hwz:w.heap.size+2<wc.heap.size:=by have:=(q9 hB).size;omega
      have p0:=(hc _ 0 (by omega)).trans z0
      have p1:=(hc _ 1 (by omega)).trans z1
      have p2:=(hc _ 2 (by omega)).trans z2
      have pf:∀j,wc.frozen? ⟨w.heap.size+2,j,none⟩=false:=fun j=>(hf _ j (by omega)).trans (zf j)
      have HBW:=v7 (v8 hbase (q9 hB))
      clear hc hf x0 x1 x2 y0 y1 y2 z0 z1 z2 zf
      go_wp2_with fail
      refine bodyPost_ret (by simp [results,Tryz.results221,go_sem,p0,p1,p2]<;>first|rfl|exact ⟨rfl,rfl,rfl⟩) rfl ⟨rfl, ?_⟩
      exact (((q9 HBW).setCell (by first|omega|(simp<;>omega)) _).setCell (by first|omega|(simp<;>omega)) _).setCell (by first|omega|(simp<;>omega)) _
   | true=>
    cases d with
    | false=>
     rw [Bool.and_false,if_neg (by decide)]
     conv=>arg 3;simp only [vV]
     go_enter Tryz.func221,Tryz.ntmps221
     go_wp2_with fail
     rw [q9 HW]
     go_cut [5] (fun s5 wx=>s5=.bool false∧Hid (Below W0.heap.size W0 wx))
     case first=>
      first | go_region_with (go_at_call 132; refine (j8 _ _).mono ?_; rintro e w1 ⟨rfl, hb1⟩; replace HB := v7 (v8 (q9 HB) hb1); obtain ⟨hc1, hf1⟩ := v9 (q9 HB); clear hb1; simp only [vV]) | fail "no region"
      all_goals (go_wp2_with fail;go_meet;exact ⟨rfl,HB⟩)
     case rest=>
      obtain ⟨rfl,hB⟩:=hcut
      obtain ⟨hc0,hf0⟩:=v9 (q9 hB)
      replace HB:=v7 (q9 hB).drew
      go_wp2_with fail
      go_cut [15] (fun s15 wx=>s15=.bool false∧Hid (Below W0.heap.size W0 wx))
      case first=>
       first | go_region_with (go_at_call 132; refine (j8 _ _).mono ?_; rintro e w1 ⟨rfl, hb1⟩; replace HB := v7 (v8 (q9 HB) hb1); obtain ⟨hc1, hf1⟩ := v9 (q9 HB); clear hb1; simp only [vV]) | fail "no region"
       all_goals (go_wp2_with fail;go_meet;exact ⟨rfl,HB⟩)
      case rest=>
       clear hB hc0 hf0 HB
       obtain ⟨rfl,hB⟩:=hcut
       obtain ⟨hc,hf⟩:=v9 (q9 hB)
       have hwz:w.heap.size+2<wc.heap.size:=by have:=(q9 hB).size;omega
       have p0:=(hc _ 0 (by omega)).trans z0
       have p1:=(hc _ 1 (by omega)).trans z1
       have p2:=(hc _ 2 (by omega)).trans z2
       have pf:∀j,wc.frozen? ⟨w.heap.size+2,j,none⟩=false:=fun j=>(hf _ j (by omega)).trans (zf j)
       have HBW:=v7 (v8 hbase (q9 hB))
       clear hc hf x0 x1 x2 y0 y1 y2 z0 z1 z2 zf
       go_wp2_with fail
       refine bodyPost_ret (by simp [results,Tryz.results221,go_sem,p0,p1,p2]<;>first|rfl|exact ⟨rfl,rfl,rfl⟩) rfl ⟨rfl, ?_⟩
       exact (((q9 HBW).setCell (by first|omega|(simp<;>omega)) _).setCell (by first|omega|(simp<;>omega)) _).setCell (by first|omega|(simp<;>omega)) _
    | true=>
     rw [Bool.and_true,if_pos rfl]
     conv=>arg 3;simp only [vV]
     go_enter Tryz.func221,Tryz.ntmps221
     go_wp2_with fail
     rw [q9 HW]
     go_cut [5] (fun s5 wx=>s5=.bool false∧Hid (Below W0.heap.size W0 wx))
     case first=>
      first | go_region_with (go_at_call 132; refine (j8 _ _).mono ?_; rintro e w1 ⟨rfl, hb1⟩; replace HB := v7 (v8 (q9 HB) hb1); obtain ⟨hc1, hf1⟩ := v9 (q9 HB); clear hb1; simp only [vV]) | fail "no region"
      all_goals (go_wp2_with fail;go_meet;exact ⟨rfl,HB⟩)
     case rest=>
      obtain ⟨rfl,hB⟩:=hcut
      obtain ⟨hc0,hf0⟩:=v9 (q9 hB)
      replace HB:=v7 (q9 hB).drew
      go_wp2_with fail
      go_cut [15] (fun s15 wx=>s15=.bool true∧Hid (Below W0.heap.size W0 wx))
      case first=>
       first | go_region_with (go_at_call 132; refine (j8 _ _).mono ?_; rintro e w1 ⟨rfl, hb1⟩; replace HB := v7 (v8 (q9 HB) hb1); obtain ⟨hc1, hf1⟩ := v9 (q9 HB); clear hb1; simp only [vV]) | fail "no region"
       all_goals (go_wp2_with fail;go_meet;exact ⟨rfl,HB⟩)
      case rest=>
       clear hB hc0 hf0 HB
       obtain ⟨rfl,hB⟩:=hcut
       obtain ⟨hc,hf⟩:=v9 (q9 hB)
       have hwz:w.heap.size+2<wc.heap.size:=by have:=(q9 hB).size;omega
       have p0:=(hc _ 0 (by omega)).trans z0
       have p1:=(hc _ 1 (by omega)).trans z1
       have p2:=(hc _ 2 (by omega)).trans z2
       have pf:∀j,wc.frozen? ⟨w.heap.size+2,j,none⟩=false:=fun j=>(hf _ j (by omega)).trans (zf j)
       have HBW:=v7 (v8 hbase (q9 hB))
       clear hc hf x0 x1 x2 y0 y1 y2 z0 z1 z2 zf
       go_wp2_with (go_at_call 132;refine (j8 _ _).mono ?_;rintro e w2 ⟨rfl,hb2⟩;have hz2:w.heap.size+2<w2.heap.size:=(by have:=hb2.size;omega);have q0:=((v9 hb2).1 _ 0 hwz).trans p0;have q1:=((v9 hb2).1 _ 1 hwz).trans p1;have q2:=((v9 hb2).1 _ 2 hwz).trans p2;have qf:∀j,w2.frozen? ⟨w.heap.size+2,j,none⟩=false:=(fun j=>((v9 hb2).2 _ j hwz).trans (pf j));have HB2:=v7 (v8 (q9 HBW) hb2);clear hb2;simp only [vV])
       refine bodyPost_ret (by simp [results,Tryz.results221,go_sem,q0,q1,q2]<;>rfl) rfl ⟨rfl, ?_⟩
       exact (((q9 HB2).setCell (by first|omega|(simp<;>omega)) _).setCell (by first|omega|(simp<;>omega)) _).setCell (by first|omega|(simp<;>omega)) _
end
section
section
variable {w:World} {a N c:Int} {iv lv ev:Value} {S E:ByteArray} {neg:Bool}
theorem rvalue_20 {b n cap:Nat} {x y z p q r:V} (hn:2<n) (hb0:b<w.heap.size) (x0:w.cell? ⟨b,0,none⟩=some (.int .i64 x.kind)) (x1:w.cell? ⟨b,1,none⟩=some (.int .i64 x.num)) (x2:w.cell? ⟨b,2,none⟩=some (.string (BS x.str))) (y0:w.cell? ⟨b,3,none⟩=some (.int .i64 y.kind)) (y1:w.cell? ⟨b,4,none⟩=some (.int .i64 y.num)) (y2:w.cell? ⟨b,5,none⟩=some (.string (BS y.str))) (z0:w.cell? ⟨b,6,none⟩=some (.int .i64 z.kind)) (z1:w.cell? ⟨b,7,none⟩=some (.int .i64 z.num)) (z2:w.cell? ⟨b,8,none⟩=some (.string (BS z.str)))
  (HG:∀w,Calls Tryz.prog 219 #[.string ⟨#[62,61]⟩,vV x,vV y] w fun e w'=>e=.returned (vV (p))∧Below w.heap.size w w') (HL:∀w,Calls Tryz.prog 219 #[.string ⟨#[60,61]⟩,vV x,vV z] w fun e w'=>e=.returned (vV (q))∧Below w.heap.size w w') (HA:∀w,Calls Tryz.prog 220 #[vV p,vV q] w fun e w'=>e=.returned (vV (r))∧Below w.heap.size w w') :
  Calls Tryz.prog 176 #[.agg #[.string ⟨#[66,69,84,87,69,69,78]⟩,.int .i64 a,iv,.string S,.string E,lv,.int .i64 N,.bool neg,.int .i64 c],.slice (some ⟨b,0,none⟩) n cap,ev] w fun e w'=>e=.returned (vV r)∧Below w.heap.size w w':=by
 have hn':(0:Int)<(n:Int):=by omega
 have hn1:(1:Int)<(n:Int):=by omega
 have hn2:(2:Int)<(n:Int):=by omega
 have hn0:0<n:=by omega
 have hm1:1<n:=by omega
 have nb:¬b=w.heap.size:=by omega
 have nb1:¬b=w.heap.size+1:=by omega
 have nb2:¬w.heap.size+1=b:=by omega
 have RG:=v7 HG
 have RL:=v7 HL
 have RA:=v7 HA
 clear HG HL HA
 simp only [vV] at RG RL RA
 go_enter Tryz.func176,Tryz.ntmps176
 go_wp2_with fail
 go_region_held3 (fun W=>W.cell? ⟨b,0,none⟩=some (.int .i64 x.kind)∧W.cell? ⟨b,1,none⟩=some (.int .i64 x.num)∧W.cell? ⟨b,2,none⟩=some (.string (BS x.str))∧W.cell? ⟨b,3,none⟩=some (.int .i64 y.kind)∧W.cell? ⟨b,4,none⟩=some (.int .i64 y.num)∧W.cell? ⟨b,5,none⟩=some (.string (BS y.str))∧W.cell? ⟨b,6,none⟩=some (.int .i64 z.kind)∧W.cell? ⟨b,7,none⟩=some (.int .i64 z.num)∧W.cell? ⟨b,8,none⟩=some (.string (BS z.str))) (first|with_reducible assumption|go_keep) (first|(go_at_call 220;refine (q9 RA _).mono ?_;rintro e w3 ⟨rfl,hb3⟩;obtain ⟨hc3,hf3⟩:=v9 hb3;have hB3:=v8 hB2 hb3;have hS3:(w3.cell? ⟨b,0,none⟩=some (.int .i64 x.kind)∧w3.cell? ⟨b,1,none⟩=some (.int .i64 x.num)∧w3.cell? ⟨b,2,none⟩=some (.string (BS x.str))∧w3.cell? ⟨b,3,none⟩=some (.int .i64 y.kind)∧w3.cell? ⟨b,4,none⟩=some (.int .i64 y.num)∧w3.cell? ⟨b,5,none⟩=some (.string (BS y.str))∧w3.cell? ⟨b,6,none⟩=some (.int .i64 z.kind)∧w3.cell? ⟨b,7,none⟩=some (.int .i64 z.num)∧w3.cell? ⟨b,8,none⟩=some (.string (BS z.str))):=(by obtain ⟨q0,q1,q2,q3,q4,q5,q6,q7,q8⟩:=hS2;exact ⟨(hc3 _ 0 hbw2).trans q0,(hc3 _ 1 hbw2).trans q1,(hc3 _ 2 hbw2).trans q2,(hc3 _ 3 hbw2).trans q3,(hc3 _ 4 hbw2).trans q4,(hc3 _ 5 hbw2).trans q5,(hc3 _ 6 hbw2).trans q6,(hc3 _ 7 hbw2).trans q7,(hc3 _ 8 hbw2).trans q8⟩);have hbw3:b<w3.heap.size:=(by have:=hb3.size;omega);have hz3:w.heap.size+2≤w3.heap.size:=(by have:=hb3.size;omega);have u0:=(hc3 _ 0 (by omega)).trans t0;have u1:=(hc3 _ 1 (by omega)).trans t1;have u2:=(hc3 _ 2 (by omega)).trans t2;have uz:=(fun i=>(hf3 (w.heap.size+1) i (by omega)).trans (tz i));clear hb3 hc3 hf3 t0 t1 t2 tz)|(go_at_call 219;have _q:=hB1;refine (q9 RL _).mono ?_;rintro e w2 ⟨rfl,hb2⟩;obtain ⟨hc2,hf2⟩:=v9 hb2;have hB2:=v8 hB1 hb2;have hS2:(w2.cell? ⟨b,0,none⟩=some (.int .i64 x.kind)∧w2.cell? ⟨b,1,none⟩=some (.int .i64 x.num)∧w2.cell? ⟨b,2,none⟩=some (.string (BS x.str))∧w2.cell? ⟨b,3,none⟩=some (.int .i64 y.kind)∧w2.cell? ⟨b,4,none⟩=some (.int .i64 y.num)∧w2.cell? ⟨b,5,none⟩=some (.string (BS y.str))∧w2.cell? ⟨b,6,none⟩=some (.int .i64 z.kind)∧w2.cell? ⟨b,7,none⟩=some (.int .i64 z.num)∧w2.cell? ⟨b,8,none⟩=some (.string (BS z.str))):=(by obtain ⟨q0,q1,q2,q3,q4,q5,q6,q7,q8⟩:=hS1;exact ⟨(hc2 _ 0 hbw1).trans q0,(hc2 _ 1 hbw1).trans q1,(hc2 _ 2 hbw1).trans q2,(hc2 _ 3 hbw1).trans q3,(hc2 _ 4 hbw1).trans q4,(hc2 _ 5 hbw1).trans q5,(hc2 _ 6 hbw1).trans q6,(hc2 _ 7 hbw1).trans q7,(hc2 _ 8 hbw1).trans q8⟩);have hbw2:b<w2.heap.size:=(by have:=hb2.size;omega);have hz2:w.heap.size+2≤w2.heap.size:=(by have:=hb2.size;omega);have t0:=(hc2 _ 0 (by omega)).trans s0;have t1:=(hc2 _ 1 (by omega)).trans s1;have t2:=(hc2 _ 2 (by omega)).trans s2;have tz:=(fun i=>(hf2 (w.heap.size+1) i (by omega)).trans (sz i));clear hb2 hc2 hf2 s0 s1 s2 sz hB1)|(go_at_call 219;refine (q9 RG _).mono ?_;rintro e w1 ⟨rfl,hb1⟩;have hB1:=v8 (qb2 w _ _).drew hb1;obtain ⟨hc1,hf1⟩:=v9 hb1;have hz1:w.heap.size+2≤w1.heap.size:=(by have:=hb1.size;change ((w.alloc _).alloc _).heap.size≤_ at this;simp at this;omega);have hbw1:b<w1.heap.size:=(by omega);have hS1:(w1.cell? ⟨b,0,none⟩=some (.int .i64 x.kind)∧w1.cell? ⟨b,1,none⟩=some (.int .i64 x.num)∧w1.cell? ⟨b,2,none⟩=some (.string (BS x.str))∧w1.cell? ⟨b,3,none⟩=some (.int .i64 y.kind)∧w1.cell? ⟨b,4,none⟩=some (.int .i64 y.num)∧w1.cell? ⟨b,5,none⟩=some (.string (BS y.str))∧w1.cell? ⟨b,6,none⟩=some (.int .i64 z.kind)∧w1.cell? ⟨b,7,none⟩=some (.int .i64 z.num)∧w1.cell? ⟨b,8,none⟩=some (.string (BS z.str))):=⟨(hc1 _ 0 (by show _<((w.alloc _).alloc _).heap.size;simp;omega)).trans ((v9 (qb2 w _ _)).1 b 0 hb0 |>.trans x0),(hc1 _ 1 (by show _<((w.alloc _).alloc _).heap.size;simp;omega)).trans ((v9 (qb2 w _ _)).1 b 1 hb0 |>.trans x1),(hc1 _ 2 (by show _<((w.alloc _).alloc _).heap.size;simp;omega)).trans ((v9 (qb2 w _ _)).1 b 2 hb0 |>.trans x2),(hc1 _ 3 (by show _<((w.alloc _).alloc _).heap.size;simp;omega)).trans ((v9 (qb2 w _ _)).1 b 3 hb0 |>.trans y0),(hc1 _ 4 (by show _<((w.alloc _).alloc _).heap.size;simp;omega)).trans ((v9 (qb2 w _ _)).1 b 4 hb0 |>.trans y1),(hc1 _ 5 (by show _<((w.alloc _).alloc _).heap.size;simp;omega)).trans ((v9 (qb2 w _ _)).1 b 5 hb0 |>.trans y2),(hc1 _ 6 (by show _<((w.alloc _).alloc _).heap.size;simp;omega)).trans ((v9 (qb2 w _ _)).1 b 6 hb0 |>.trans z0),(hc1 _ 7 (by show _<((w.alloc _).alloc _).heap.size;simp;omega)).trans ((v9 (qb2 w _ _)).1 b 7 hb0 |>.trans z1),(hc1 _ 8 (by show _<((w.alloc _).alloc _).heap.size;simp;omega)).trans ((v9 (qb2 w _ _)).1 b 8 hb0 |>.trans z2)⟩;have s0:w1.cell? ⟨w.heap.size+1,0,none⟩=some (.int .i64 0):=(hc1 _ 0 (by show _<((w.alloc _).alloc _).heap.size;simp)).trans (by show ((w.alloc _).alloc _).cell? _=_;simp);have s1:w1.cell? ⟨w.heap.size+1,1,none⟩=some (.int .i64 0):=(hc1 _ 1 (by show _<((w.alloc _).alloc _).heap.size;simp)).trans (by show ((w.alloc _).alloc _).cell? _=_;simp);have s2:w1.cell? ⟨w.heap.size+1,2,none⟩=some (.string ⟨#[]⟩):=(hc1 _ 2 (by show _<((w.alloc _).alloc _).heap.size;simp)).trans (by show ((w.alloc _).alloc _).cell? _=_;simp);have sz:∀i,w1.frozen? ⟨w.heap.size+1,i,none⟩=false:=(fun i=>(hf1 _ i (by show _<((w.alloc _).alloc _).heap.size;simp)).trans (by show ((w.alloc _).alloc _).frozen? _=_;simp));clear hb1 hc1 hf1))
 all_goals go_wp2_with fail
 all_goals refine bodyPost_ret (by simp [results,Tryz.results176,go_sem,u0,u1,u2]<;>rfl) rfl ⟨rfl, ?_⟩
 all_goals exact (((hB3.setCell (by simp) _).setCell (by simp) _).setCell (by simp) _)
theorem rvalue_22 {b n cap:Nat} {x r:V} (hn:0<n) (hb0:b<w.heap.size) (x0:w.cell? ⟨b,0,none⟩=some (.int .i64 x.kind)) (x1:w.cell? ⟨b,1,none⟩=some (.int .i64 x.num)) (x2:w.cell? ⟨b,2,none⟩=some (.string (BS x.str)))
  (HR:∀w,Calls Tryz.prog 223 #[vV x,.string S,.string E] w fun e w'=>e=.returned (vV (r))∧Below w.heap.size w w') :
  Calls Tryz.prog 176 #[.agg #[.string ⟨#[76,73,75,69]⟩,.int .i64 a,iv,.string S,.string E,lv,.int .i64 N,.bool neg,.int .i64 c],.slice (some ⟨b,0,none⟩) n cap,ev] w fun e w'=>e=.returned (vV r)∧Below w.heap.size w w':=by
 have hn':(0:Int)<(n:Int):=by omega
 have nb:¬b=w.heap.size:=by omega
 have nb1:¬b=w.heap.size+1:=by omega
 have nb2:¬w.heap.size+1=b:=by omega
 have RN:=v7 HR
 clear HR
 simp only [vV] at RN
 go_enter Tryz.func176,Tryz.ntmps176
 go_wp2_with fail
 go_region_held3 (fun W=>W.cell? ⟨w.heap.size,3,none⟩=some (.string S)∧W.cell? ⟨w.heap.size,4,none⟩=some (.string E)∧W.cell? ⟨b,0,none⟩=some (.int .i64 x.kind)∧W.cell? ⟨b,1,none⟩=some (.int .i64 x.num)∧W.cell? ⟨b,2,none⟩=some (.string (BS x.str))) (first|with_reducible assumption|go_keep) ((go_at_call 223;refine (q9 RN _).mono ?_;rintro e w' ⟨rfl,hb⟩;obtain ⟨hc,hf⟩:=v9 hb;have hS:(w'.cell? ⟨w.heap.size,3,none⟩=some (.string S)∧w'.cell? ⟨w.heap.size,4,none⟩=some (.string E)∧w'.cell? ⟨b,0,none⟩=some (.int .i64 x.kind)∧w'.cell? ⟨b,1,none⟩=some (.int .i64 x.num)∧w'.cell? ⟨b,2,none⟩=some (.string (BS x.str))):=⟨(hc _ 3 (by show _<((w.alloc _).alloc _).heap.size;simp;try omega)).trans (by show ((w.alloc _).alloc _).cell? _=_;simp),(hc _ 4 (by show _<((w.alloc _).alloc _).heap.size;simp;try omega)).trans (by show ((w.alloc _).alloc _).cell? _=_;simp),(hc _ 0 (by show _<((w.alloc _).alloc _).heap.size;simp;omega)).trans ((v9 (qb2 w _ _)).1 b 0 hb0 |>.trans x0),(hc _ 1 (by show _<((w.alloc _).alloc _).heap.size;simp;omega)).trans ((v9 (qb2 w _ _)).1 b 1 hb0 |>.trans x1),(hc _ 2 (by show _<((w.alloc _).alloc _).heap.size;simp;omega)).trans ((v9 (qb2 w _ _)).1 b 2 hb0 |>.trans x2)⟩))
 all_goals go_wp2_with fail
 all_goals refine bodyPost_ret (by simp [results,Tryz.results176,go_sem,hc]<;>rfl) rfl ⟨rfl, ?_⟩
 all_goals exact ((((v8 (qb2 _ _ _).drew hb).setCell (by simp) _).setCell (by simp) _).setCell (by simp) _)
end
end
end Go.Proofs.YtfkcaldjphakpaaGreatDoor
