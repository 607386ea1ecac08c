/- class, checkClasses. All of Join but for the signs. -/
import Derived.Test.YtfkcaldjphakpabGreatDoorWCl3
import Derived.Test.YtfkcaldjphakpabGreatDoorF12
import Derived.Test.YtfkcaldjphakpabGreatDoorF14
set_option maxHeartbeats 400000
namespace Go.Proofs.YtfkcaldjphakpabGreatDoor
open Go.RowKit
section
theorem qd3 {op pl want c:Int} {rs:List CRes} (h:qt3 op pl rs=vg0 want pl c rs) (hq:dem want pl rs true=none):qt3 op pl rs=.ok c:=by
 rw [h,vg0,hq]
theorem qd4 {op pl want c q:Int} {rs:List CRes} (h:qt3 op pl rs=vg0 want pl c rs) (hq:dem want pl rs true=some q):qt3 op pl rs=.err q:=by
 rw [h,vg0,hq]
theorem class_0 (lo:Nat) (t:Ast) (ho:(y8 t).op=0):qe9 lo t:=by
 intro w v h
 have hc:qa1 t=.ok 0:=by rw [qb6,ho];rfl
 rw [hc]
 obtain ⟨b,sv,rfl,hnode,_⟩:=h.parts
 have c0:=hnode.c0
 rw [ho] at c0
 clear hnode h hc ho
 go_enter Tryz.func88,Tryz.ntmps88
 go_wp2_with fail
 go_ret
 exact ⟨Below.refl _ _,rfl⟩
theorem class_1 (lo:Nat) (t:Ast) (ho:(y8 t).op=1):qe9 lo t:=by
 intro w v h
 have hc:qa1 t=.ok 1:=by rw [qb6,ho];rfl
 rw [hc]
 obtain ⟨b,sv,rfl,hnode,_⟩:=h.parts
 have c0:=hnode.c0
 rw [ho] at c0
 clear hnode h hc ho
 go_enter Tryz.func88,Tryz.ntmps88
 go_wp2_with fail
 go_ret
 exact ⟨Below.refl _ _,rfl⟩
theorem class_2 (lo:Nat) (t:Ast) (ho:(y8 t).op=2):qe9 lo t:=by
 intro w v h
 have hc:qa1 t=.ok 2:=by rw [qb6,ho];rfl
 rw [hc]
 obtain ⟨b,sv,rfl,hnode,_⟩:=h.parts
 have c0:=hnode.c0
 rw [ho] at c0
 clear hnode h hc ho
 go_enter Tryz.func88,Tryz.ntmps88
 go_wp2_with fail
 go_ret
 exact ⟨Below.refl _ _,rfl⟩
theorem class_5 (lo:Nat) (t:Ast) (hcls:∀x∈j4 t,qe9 lo x) (ho:(y8 t).op=5):qe9 lo t:=by
 intro w v h
 have DEM:=v7 (qd5 lo t hcls 3 w v h)
 obtain ⟨b,sv,rfl,hnode,_⟩:=h.parts
 have c0:=hnode.c0
 rw [ho] at c0
 cases hd:dem 3 (y8 t).place ((j4 t).map qa1) true with
 | none=>
  have hc:qa1 t=.ok 3:=by rw [qb6,ho];exact qd3 (c:=3) rfl hd
  rw [hc]
  rw [hd] at DEM
  clear hnode h hc ho hd hcls
  go_enter Tryz.func88,Tryz.ntmps88
  go_wp2_with (go_at_call 135;refine (q9 DEM).mono ?_;rintro e w1 ⟨hb1,h1⟩;subst h1)
  go_ret
  exact ⟨hb1,rfl⟩
 | some q=>
  have hc:qa1 t=.err q:=by rw [qb6,ho];exact qd4 (c:=3) rfl hd
  rw [hc]
  rw [hd] at DEM
  clear hnode h hc ho hd hcls
  go_enter Tryz.func88,Tryz.ntmps88
  go_wp2_with (go_at_call 135;refine (q9 DEM).mono ?_;rintro e w1 ⟨hb1,h1⟩;subst h1;simp only [x4])
  exact ⟨rfl,hb1,rfl⟩
theorem class_6 (lo:Nat) (t:Ast) (hcls:∀x∈j4 t,qe9 lo x) (ho:(y8 t).op=6):qe9 lo t:=by
 intro w v h
 have DEM:=v7 (qd5 lo t hcls 3 w v h)
 obtain ⟨b,sv,rfl,hnode,_⟩:=h.parts
 have c0:=hnode.c0
 rw [ho] at c0
 cases hd:dem 3 (y8 t).place ((j4 t).map qa1) true with
 | none=>
  have hc:qa1 t=.ok 3:=by rw [qb6,ho];exact qd3 (c:=3) rfl hd
  rw [hc]
  rw [hd] at DEM
  clear hnode h hc ho hd hcls
  go_enter Tryz.func88,Tryz.ntmps88
  go_wp2_with (go_at_call 135;refine (q9 DEM).mono ?_;rintro e w1 ⟨hb1,h1⟩;subst h1)
  go_ret
  exact ⟨hb1,rfl⟩
 | some q=>
  have hc:qa1 t=.err q:=by rw [qb6,ho];exact qd4 (c:=3) rfl hd
  rw [hc]
  rw [hd] at DEM
  clear hnode h hc ho hd hcls
  go_enter Tryz.func88,Tryz.ntmps88
  go_wp2_with (go_at_call 135;refine (q9 DEM).mono ?_;rintro e w1 ⟨hb1,h1⟩;subst h1;simp only [x4])
  exact ⟨rfl,hb1,rfl⟩
theorem class_7 (lo:Nat) (t:Ast) (hcls:∀x∈j4 t,qe9 lo x) (ho:(y8 t).op=7):qe9 lo t:=by
 intro w v h
 have DEM:=v7 (qd5 lo t hcls 3 w v h)
 obtain ⟨b,sv,rfl,hnode,_⟩:=h.parts
 have c0:=hnode.c0
 rw [ho] at c0
 cases hd:dem 3 (y8 t).place ((j4 t).map qa1) true with
 | none=>
  have hc:qa1 t=.ok 3:=by rw [qb6,ho];exact qd3 (c:=3) rfl hd
  rw [hc]
  rw [hd] at DEM
  clear hnode h hc ho hd hcls
  go_enter Tryz.func88,Tryz.ntmps88
  go_wp2_with (go_at_call 135;refine (q9 DEM).mono ?_;rintro e w1 ⟨hb1,h1⟩;subst h1)
  go_ret
  exact ⟨hb1,rfl⟩
 | some q=>
  have hc:qa1 t=.err q:=by rw [qb6,ho];exact qd4 (c:=3) rfl hd
  rw [hc]
  rw [hd] at DEM
  clear hnode h hc ho hd hcls
  go_enter Tryz.func88,Tryz.ntmps88
  go_wp2_with (go_at_call 135;refine (q9 DEM).mono ?_;rintro e w1 ⟨hb1,h1⟩;subst h1;simp only [x4])
  exact ⟨rfl,hb1,rfl⟩
theorem class_10 (lo:Nat) (t:Ast) (hcls:∀x∈j4 t,qe9 lo x) (ho:(y8 t).op=10):qe9 lo t:=by
 intro w v h
 have DEM:=v7 (qd5 lo t hcls 1 w v h)
 obtain ⟨b,sv,rfl,hnode,_⟩:=h.parts
 have c0:=hnode.c0
 rw [ho] at c0
 cases hd:dem 1 (y8 t).place ((j4 t).map qa1) true with
 | none=>
  have hc:qa1 t=.ok 3:=by rw [qb6,ho];exact qd3 (c:=3) rfl hd
  rw [hc]
  rw [hd] at DEM
  clear hnode h hc ho hd hcls
  go_enter Tryz.func88,Tryz.ntmps88
  go_wp2_with (go_at_call 135;refine (q9 DEM).mono ?_;rintro e w1 ⟨hb1,h1⟩;subst h1)
  go_ret
  exact ⟨hb1,rfl⟩
 | some q=>
  have hc:qa1 t=.err q:=by rw [qb6,ho];exact qd4 (c:=3) rfl hd
  rw [hc]
  rw [hd] at DEM
  clear hnode h hc ho hd hcls
  go_enter Tryz.func88,Tryz.ntmps88
  go_wp2_with (go_at_call 135;refine (q9 DEM).mono ?_;rintro e w1 ⟨hb1,h1⟩;subst h1;simp only [x4])
  exact ⟨rfl,hb1,rfl⟩
theorem class_11 (lo:Nat) (t:Ast) (hcls:∀x∈j4 t,qe9 lo x) (ho:(y8 t).op=11):qe9 lo t:=by
 intro w v h
 have DEM:=v7 (qd5 lo t hcls 1 w v h)
 obtain ⟨b,sv,rfl,hnode,_⟩:=h.parts
 have c0:=hnode.c0
 rw [ho] at c0
 cases hd:dem 1 (y8 t).place ((j4 t).map qa1) true with
 | none=>
  have hc:qa1 t=.ok 3:=by rw [qb6,ho];exact qd3 (c:=3) rfl hd
  rw [hc]
  rw [hd] at DEM
  clear hnode h hc ho hd hcls
  go_enter Tryz.func88,Tryz.ntmps88
  go_wp2_with (go_at_call 135;refine (q9 DEM).mono ?_;rintro e w1 ⟨hb1,h1⟩;subst h1)
  go_ret
  exact ⟨hb1,rfl⟩
 | some q=>
  have hc:qa1 t=.err q:=by rw [qb6,ho];exact qd4 (c:=3) rfl hd
  rw [hc]
  rw [hd] at DEM
  clear hnode h hc ho hd hcls
  go_enter Tryz.func88,Tryz.ntmps88
  go_wp2_with (go_at_call 135;refine (q9 DEM).mono ?_;rintro e w1 ⟨hb1,h1⟩;subst h1;simp only [x4])
  exact ⟨rfl,hb1,rfl⟩
theorem class_12 (lo:Nat) (t:Ast) (hcls:∀x∈j4 t,qe9 lo x) (ho:(y8 t).op=12):qe9 lo t:=by
 intro w v h
 have DEM:=v7 (qd5 lo t hcls 1 w v h)
 obtain ⟨b,sv,rfl,hnode,_⟩:=h.parts
 have c0:=hnode.c0
 rw [ho] at c0
 cases hd:dem 1 (y8 t).place ((j4 t).map qa1) true with
 | none=>
  have hc:qa1 t=.ok 3:=by rw [qb6,ho];exact qd3 (c:=3) rfl hd
  rw [hc]
  rw [hd] at DEM
  clear hnode h hc ho hd hcls
  go_enter Tryz.func88,Tryz.ntmps88
  go_wp2_with (go_at_call 135;refine (q9 DEM).mono ?_;rintro e w1 ⟨hb1,h1⟩;subst h1)
  go_ret
  exact ⟨hb1,rfl⟩
 | some q=>
  have hc:qa1 t=.err q:=by rw [qb6,ho];exact qd4 (c:=3) rfl hd
  rw [hc]
  rw [hd] at DEM
  clear hnode h hc ho hd hcls
  go_enter Tryz.func88,Tryz.ntmps88
  go_wp2_with (go_at_call 135;refine (q9 DEM).mono ?_;rintro e w1 ⟨hb1,h1⟩;subst h1;simp only [x4])
  exact ⟨rfl,hb1,rfl⟩
theorem class_13 (lo:Nat) (t:Ast) (hcls:∀x∈j4 t,qe9 lo x) (ho:(y8 t).op=13):qe9 lo t:=by
 intro w v h
 have DEM:=v7 (qd5 lo t hcls 1 w v h)
 obtain ⟨b,sv,rfl,hnode,_⟩:=h.parts
 have c0:=hnode.c0
 rw [ho] at c0
 cases hd:dem 1 (y8 t).place ((j4 t).map qa1) true with
 | none=>
  have hc:qa1 t=.ok 3:=by rw [qb6,ho];exact qd3 (c:=3) rfl hd
  rw [hc]
  rw [hd] at DEM
  clear hnode h hc ho hd hcls
  go_enter Tryz.func88,Tryz.ntmps88
  go_wp2_with (go_at_call 135;refine (q9 DEM).mono ?_;rintro e w1 ⟨hb1,h1⟩;subst h1)
  go_ret
  exact ⟨hb1,rfl⟩
 | some q=>
  have hc:qa1 t=.err q:=by rw [qb6,ho];exact qd4 (c:=3) rfl hd
  rw [hc]
  rw [hd] at DEM
  clear hnode h hc ho hd hcls
  go_enter Tryz.func88,Tryz.ntmps88
  go_wp2_with (go_at_call 135;refine (q9 DEM).mono ?_;rintro e w1 ⟨hb1,h1⟩;subst h1;simp only [x4])
  exact ⟨rfl,hb1,rfl⟩
theorem class_20 (lo:Nat) (t:Ast) (hcls:∀x∈j4 t,qe9 lo x) (ho:(y8 t).op=20):qe9 lo t:=by
 intro w v h
 have DEM:=v7 (qd5 lo t hcls 1 w v h)
 obtain ⟨b,sv,rfl,hnode,_⟩:=h.parts
 have c0:=hnode.c0
 rw [ho] at c0
 cases hd:dem 1 (y8 t).place ((j4 t).map qa1) true with
 | none=>
  have hc:qa1 t=.ok 3:=by rw [qb6,ho];exact qd3 (c:=3) rfl hd
  rw [hc]
  rw [hd] at DEM
  clear hnode h hc ho hd hcls
  go_enter Tryz.func88,Tryz.ntmps88
  go_wp2_with (go_at_call 135;refine (q9 DEM).mono ?_;rintro e w1 ⟨hb1,h1⟩;subst h1)
  go_ret
  exact ⟨hb1,rfl⟩
 | some q=>
  have hc:qa1 t=.err q:=by rw [qb6,ho];exact qd4 (c:=3) rfl hd
  rw [hc]
  rw [hd] at DEM
  clear hnode h hc ho hd hcls
  go_enter Tryz.func88,Tryz.ntmps88
  go_wp2_with (go_at_call 135;refine (q9 DEM).mono ?_;rintro e w1 ⟨hb1,h1⟩;subst h1;simp only [x4])
  exact ⟨rfl,hb1,rfl⟩
theorem class_14 (lo:Nat) (t:Ast) (hcls:∀x∈j4 t,qe9 lo x) (ho:(y8 t).op=14):qe9 lo t:=by
 intro w v h
 have DEM:=v7 (qd5 lo t hcls 1 w v h)
 obtain ⟨b,sv,rfl,hnode,_⟩:=h.parts
 have c0:=hnode.c0
 rw [ho] at c0
 cases hd:dem 1 (y8 t).place ((j4 t).map qa1) true with
 | none=>
  have hc:qa1 t=.ok 1:=by rw [qb6,ho];exact qd3 (c:=1) rfl hd
  rw [hc]
  rw [hd] at DEM
  clear hnode h hc ho hd hcls
  go_enter Tryz.func88,Tryz.ntmps88
  go_wp2_with (go_at_call 135;refine (q9 DEM).mono ?_;rintro e w1 ⟨hb1,h1⟩;subst h1)
  go_ret
  exact ⟨hb1,rfl⟩
 | some q=>
  have hc:qa1 t=.err q:=by rw [qb6,ho];exact qd4 (c:=1) rfl hd
  rw [hc]
  rw [hd] at DEM
  clear hnode h hc ho hd hcls
  go_enter Tryz.func88,Tryz.ntmps88
  go_wp2_with (go_at_call 135;refine (q9 DEM).mono ?_;rintro e w1 ⟨hb1,h1⟩;subst h1;simp only [x4])
  exact ⟨rfl,hb1,rfl⟩
theorem class_15 (lo:Nat) (t:Ast) (hcls:∀x∈j4 t,qe9 lo x) (ho:(y8 t).op=15):qe9 lo t:=by
 intro w v h
 have DEM:=v7 (qd5 lo t hcls 1 w v h)
 obtain ⟨b,sv,rfl,hnode,_⟩:=h.parts
 have c0:=hnode.c0
 rw [ho] at c0
 cases hd:dem 1 (y8 t).place ((j4 t).map qa1) true with
 | none=>
  have hc:qa1 t=.ok 1:=by rw [qb6,ho];exact qd3 (c:=1) rfl hd
  rw [hc]
  rw [hd] at DEM
  clear hnode h hc ho hd hcls
  go_enter Tryz.func88,Tryz.ntmps88
  go_wp2_with (go_at_call 135;refine (q9 DEM).mono ?_;rintro e w1 ⟨hb1,h1⟩;subst h1)
  go_ret
  exact ⟨hb1,rfl⟩
 | some q=>
  have hc:qa1 t=.err q:=by rw [qb6,ho];exact qd4 (c:=1) rfl hd
  rw [hc]
  rw [hd] at DEM
  clear hnode h hc ho hd hcls
  go_enter Tryz.func88,Tryz.ntmps88
  go_wp2_with (go_at_call 135;refine (q9 DEM).mono ?_;rintro e w1 ⟨hb1,h1⟩;subst h1;simp only [x4])
  exact ⟨rfl,hb1,rfl⟩
theorem class_16 (lo:Nat) (t:Ast) (hcls:∀x∈j4 t,qe9 lo x) (ho:(y8 t).op=16):qe9 lo t:=by
 intro w v h
 have DEM:=v7 (qd5 lo t hcls 1 w v h)
 obtain ⟨b,sv,rfl,hnode,_⟩:=h.parts
 have c0:=hnode.c0
 rw [ho] at c0
 cases hd:dem 1 (y8 t).place ((j4 t).map qa1) true with
 | none=>
  have hc:qa1 t=.ok 1:=by rw [qb6,ho];exact qd3 (c:=1) rfl hd
  rw [hc]
  rw [hd] at DEM
  clear hnode h hc ho hd hcls
  go_enter Tryz.func88,Tryz.ntmps88
  go_wp2_with (go_at_call 135;refine (q9 DEM).mono ?_;rintro e w1 ⟨hb1,h1⟩;subst h1)
  go_ret
  exact ⟨hb1,rfl⟩
 | some q=>
  have hc:qa1 t=.err q:=by rw [qb6,ho];exact qd4 (c:=1) rfl hd
  rw [hc]
  rw [hd] at DEM
  clear hnode h hc ho hd hcls
  go_enter Tryz.func88,Tryz.ntmps88
  go_wp2_with (go_at_call 135;refine (q9 DEM).mono ?_;rintro e w1 ⟨hb1,h1⟩;subst h1;simp only [x4])
  exact ⟨rfl,hb1,rfl⟩
theorem class_17 (lo:Nat) (t:Ast) (hcls:∀x∈j4 t,qe9 lo x) (ho:(y8 t).op=17):qe9 lo t:=by
 intro w v h
 have DEM:=v7 (qd5 lo t hcls 1 w v h)
 obtain ⟨b,sv,rfl,hnode,_⟩:=h.parts
 have c0:=hnode.c0
 rw [ho] at c0
 cases hd:dem 1 (y8 t).place ((j4 t).map qa1) true with
 | none=>
  have hc:qa1 t=.ok 1:=by rw [qb6,ho];exact qd3 (c:=1) rfl hd
  rw [hc]
  rw [hd] at DEM
  clear hnode h hc ho hd hcls
  go_enter Tryz.func88,Tryz.ntmps88
  go_wp2_with (go_at_call 135;refine (q9 DEM).mono ?_;rintro e w1 ⟨hb1,h1⟩;subst h1)
  go_ret
  exact ⟨hb1,rfl⟩
 | some q=>
  have hc:qa1 t=.err q:=by rw [qb6,ho];exact qd4 (c:=1) rfl hd
  rw [hc]
  rw [hd] at DEM
  clear hnode h hc ho hd hcls
  go_enter Tryz.func88,Tryz.ntmps88
  go_wp2_with (go_at_call 135;refine (q9 DEM).mono ?_;rintro e w1 ⟨hb1,h1⟩;subst h1;simp only [x4])
  exact ⟨rfl,hb1,rfl⟩
theorem class_18 (lo:Nat) (t:Ast) (hcls:∀x∈j4 t,qe9 lo x) (ho:(y8 t).op=18):qe9 lo t:=by
 intro w v h
 have DEM:=v7 (qd5 lo t hcls 1 w v h)
 obtain ⟨b,sv,rfl,hnode,_⟩:=h.parts
 have c0:=hnode.c0
 rw [ho] at c0
 cases hd:dem 1 (y8 t).place ((j4 t).map qa1) true with
 | none=>
  have hc:qa1 t=.ok 1:=by rw [qb6,ho];exact qd3 (c:=1) rfl hd
  rw [hc]
  rw [hd] at DEM
  clear hnode h hc ho hd hcls
  go_enter Tryz.func88,Tryz.ntmps88
  go_wp2_with (go_at_call 135;refine (q9 DEM).mono ?_;rintro e w1 ⟨hb1,h1⟩;subst h1)
  go_ret
  exact ⟨hb1,rfl⟩
 | some q=>
  have hc:qa1 t=.err q:=by rw [qb6,ho];exact qd4 (c:=1) rfl hd
  rw [hc]
  rw [hd] at DEM
  clear hnode h hc ho hd hcls
  go_enter Tryz.func88,Tryz.ntmps88
  go_wp2_with (go_at_call 135;refine (q9 DEM).mono ?_;rintro e w1 ⟨hb1,h1⟩;subst h1;simp only [x4])
  exact ⟨rfl,hb1,rfl⟩
theorem class_19 (lo:Nat) (t:Ast) (hcls:∀x∈j4 t,qe9 lo x) (ho:(y8 t).op=19):qe9 lo t:=by
 intro w v h
 have DEM:=v7 (qd5 lo t hcls 1 w v h)
 obtain ⟨b,sv,rfl,hnode,_⟩:=h.parts
 have c0:=hnode.c0
 rw [ho] at c0
 cases hd:dem 1 (y8 t).place ((j4 t).map qa1) true with
 | none=>
  have hc:qa1 t=.ok 1:=by rw [qb6,ho];exact qd3 (c:=1) rfl hd
  rw [hc]
  rw [hd] at DEM
  clear hnode h hc ho hd hcls
  go_enter Tryz.func88,Tryz.ntmps88
  go_wp2_with (go_at_call 135;refine (q9 DEM).mono ?_;rintro e w1 ⟨hb1,h1⟩;subst h1)
  go_ret
  exact ⟨hb1,rfl⟩
 | some q=>
  have hc:qa1 t=.err q:=by rw [qb6,ho];exact qd4 (c:=1) rfl hd
  rw [hc]
  rw [hd] at DEM
  clear hnode h hc ho hd hcls
  go_enter Tryz.func88,Tryz.ntmps88
  go_wp2_with (go_at_call 135;refine (q9 DEM).mono ?_;rintro e w1 ⟨hb1,h1⟩;subst h1;simp only [x4])
  exact ⟨rfl,hb1,rfl⟩
theorem class_8 (lo:Nat) (p:Pay) (x y:Ast) (hx:qe9 lo x) (hy:qe9 lo y) (ho:p.op=8):qe9 lo (.bin p x y):=by
 intro w v h
 have ALI:=v7 (vz8 lo p x y hx hy w v h)
 obtain ⟨b,sv,rfl,hnode,_⟩:=h.parts
 have c0:w.cell? ⟨b,0,none⟩=some (.int .i64 p.op):=hnode.c0
 rw [ho] at c0
 have hc:qa1 (.bin p x y)=qk4 p.place (qa1 x) (qa1 y):=by rw [qa1,ho];rfl
 rw [hc]
 have h3:∀c,qk4 p.place (qa1 x) (qa1 y)=.ok c→c=3:=by
  intro c h
  unfold qk4 at h
  split at h
  ·cases h
  ·cases h
  ·split at h
   ·cases h
   ·injection h with h;exact h.symm
 obtain ⟨r,hr⟩:∃r,qk4 p.place (qa1 x) (qa1 y)=r:=⟨_,rfl⟩
 rw [hr] at ALI h3 ⊢
 clear hnode h hc ho hr hx hy
 cases r with
 | ok c=>
  obtain rfl:=h3 c rfl
  clear h3
  go_enter Tryz.func88,Tryz.ntmps88
  go_wp2_with (go_at_call 136;refine (q9 ALI).mono ?_;rintro e w1 ⟨hb1,h1⟩;subst h1)
  go_ret
  exact ⟨hb1,rfl⟩
 | err q=>
  clear h3
  go_enter Tryz.func88,Tryz.ntmps88
  go_wp2_with (go_at_call 136;refine (q9 ALI).mono ?_;rintro e w1 ⟨hb1,h1⟩;subst h1;simp only [x4])
  exact ⟨rfl,hb1,rfl⟩
theorem class_9 (lo:Nat) (p:Pay) (x y:Ast) (hx:qe9 lo x) (hy:qe9 lo y) (ho:p.op=9):qe9 lo (.bin p x y):=by
 intro w v h
 have ALI:=v7 (vz8 lo p x y hx hy w v h)
 obtain ⟨b,sv,rfl,hnode,_⟩:=h.parts
 have c0:w.cell? ⟨b,0,none⟩=some (.int .i64 p.op):=hnode.c0
 rw [ho] at c0
 have hc:qa1 (.bin p x y)=qk4 p.place (qa1 x) (qa1 y):=by rw [qa1,ho];rfl
 rw [hc]
 have h3:∀c,qk4 p.place (qa1 x) (qa1 y)=.ok c→c=3:=by
  intro c h
  unfold qk4 at h
  split at h
  ·cases h
  ·cases h
  ·split at h
   ·cases h
   ·injection h with h;exact h.symm
 obtain ⟨r,hr⟩:∃r,qk4 p.place (qa1 x) (qa1 y)=r:=⟨_,rfl⟩
 rw [hr] at ALI h3 ⊢
 clear hnode h hc ho hr hx hy
 cases r with
 | ok c=>
  obtain rfl:=h3 c rfl
  clear h3
  go_enter Tryz.func88,Tryz.ntmps88
  go_wp2_with (go_at_call 136;refine (q9 ALI).mono ?_;rintro e w1 ⟨hb1,h1⟩;subst h1)
  go_ret
  exact ⟨hb1,rfl⟩
 | err q=>
  clear h3
  go_enter Tryz.func88,Tryz.ntmps88
  go_wp2_with (go_at_call 136;refine (q9 ALI).mono ?_;rintro e w1 ⟨hb1,h1⟩;subst h1;simp only [x4])
  exact ⟨rfl,hb1,rfl⟩
theorem jv0 (lo:Nat) (t:Ast) (h0:¬(y8 t).op=0) (h1:¬(y8 t).op=1) (h2:¬(y8 t).op=2) (h5:¬(y8 t).op=5) (h6:¬(y8 t).op=6) (h7:¬(y8 t).op=7) (h10:¬(y8 t).op=10) (h11:¬(y8 t).op=11) (h12:¬(y8 t).op=12) (h13:¬(y8 t).op=13) (h20:¬(y8 t).op=20) (h14:¬(y8 t).op=14) (h15:¬(y8 t).op=15) (h16:¬(y8 t).op=16) (h17:¬(y8 t).op=17) (h18:¬(y8 t).op=18) (h19:¬(y8 t).op=19) (h8:¬(y8 t).op=8) (h9:¬(y8 t).op=9):qe9 lo t:=by
 intro w v h
 have e0:((y8 t).op==0)=false:=beq_eq_false_iff_ne.2 h0
 have e1:((y8 t).op==1)=false:=beq_eq_false_iff_ne.2 h1
 have e2:((y8 t).op==2)=false:=beq_eq_false_iff_ne.2 h2
 have e5:((y8 t).op==5)=false:=beq_eq_false_iff_ne.2 h5
 have e6:((y8 t).op==6)=false:=beq_eq_false_iff_ne.2 h6
 have e7:((y8 t).op==7)=false:=beq_eq_false_iff_ne.2 h7
 have e10:((y8 t).op==10)=false:=beq_eq_false_iff_ne.2 h10
 have e11:((y8 t).op==11)=false:=beq_eq_false_iff_ne.2 h11
 have e12:((y8 t).op==12)=false:=beq_eq_false_iff_ne.2 h12
 have e13:((y8 t).op==13)=false:=beq_eq_false_iff_ne.2 h13
 have e20:((y8 t).op==20)=false:=beq_eq_false_iff_ne.2 h20
 have e14:((y8 t).op==14)=false:=beq_eq_false_iff_ne.2 h14
 have e15:((y8 t).op==15)=false:=beq_eq_false_iff_ne.2 h15
 have e16:((y8 t).op==16)=false:=beq_eq_false_iff_ne.2 h16
 have e17:((y8 t).op==17)=false:=beq_eq_false_iff_ne.2 h17
 have e18:((y8 t).op==18)=false:=beq_eq_false_iff_ne.2 h18
 have e19:((y8 t).op==19)=false:=beq_eq_false_iff_ne.2 h19
 have e8:((y8 t).op==8)=false:=beq_eq_false_iff_ne.2 h8
 have e9:((y8 t).op==9)=false:=beq_eq_false_iff_ne.2 h9
 have hc:qa1 t=.ok 3:=by rw [qb6];simp only [qt3,e0,e1,e2,e5,e6,e7,e10,e11,e12,e13,e20,e14,e15,e16,e17,e18,e19,e8,e9,Bool.or_self,Bool.false_eq_true,if_false]
 rw [hc]
 obtain ⟨b,sv,rfl,hnode,_⟩:=h.parts
 have c0:=hnode.c0
 clear hnode h hc h0 h1 h2 h5 h6 h7 h10 h11 h12 h13 h20 h14 h15 h16 h17 h18 h19 h8 h9
 go_enter Tryz.func88,Tryz.ntmps88
 go_wp2_with fail
 go_ret
 exact ⟨Below.refl _ _,rfl⟩
theorem qz0 (lo:Nat) (t:Ast) (hwf:WfA t) (hcls:∀x∈j4 t,qe9 lo x):qe9 lo t:=by
 by_cases h0:(y8 t).op=0
 ·exact class_0 lo t h0
 by_cases h1:(y8 t).op=1
 ·exact class_1 lo t h1
 by_cases h2:(y8 t).op=2
 ·exact class_2 lo t h2
 by_cases h5:(y8 t).op=5
 ·exact class_5 lo t hcls h5
 by_cases h6:(y8 t).op=6
 ·exact class_6 lo t hcls h6
 by_cases h7:(y8 t).op=7
 ·exact class_7 lo t hcls h7
 by_cases h10:(y8 t).op=10
 ·exact class_10 lo t hcls h10
 by_cases h11:(y8 t).op=11
 ·exact class_11 lo t hcls h11
 by_cases h12:(y8 t).op=12
 ·exact class_12 lo t hcls h12
 by_cases h13:(y8 t).op=13
 ·exact class_13 lo t hcls h13
 by_cases h20:(y8 t).op=20
 ·exact class_20 lo t hcls h20
 by_cases h14:(y8 t).op=14
 ·exact class_14 lo t hcls h14
 by_cases h15:(y8 t).op=15
 ·exact class_15 lo t hcls h15
 by_cases h16:(y8 t).op=16
 ·exact class_16 lo t hcls h16
 by_cases h17:(y8 t).op=17
 ·exact class_17 lo t hcls h17
 by_cases h18:(y8 t).op=18
 ·exact class_18 lo t hcls h18
 by_cases h19:(y8 t).op=19
 ·exact class_19 lo t hcls h19
 by_cases h8:(y8 t).op=8
 ·cases t with
  | leaf p=>exact absurd h8 hwf.1
  | un p x=>exact absurd h8 hwf.1.1
  | bin p x y=>exact class_8 lo p x y (hcls x (by simp [j4])) (hcls y (by simp [j4])) h8
  | tri p x y z=>exact absurd h8 hwf.1.1
 by_cases h9:(y8 t).op=9
 ·cases t with
  | leaf p=>exact absurd h9 hwf.2
  | un p x=>exact absurd h9 hwf.1.2
  | bin p x y=>exact class_9 lo p x y (hcls x (by simp [j4])) (hcls y (by simp [j4])) h9
  | tri p x y z=>exact absurd h9 hwf.1.2
 exact jv0 lo t h0 h1 h2 h5 h6 h7 h10 h11 h12 h13 h20 h14 h15 h16 h17 h18 h19 h8 h9
theorem class_all (lo:Nat):∀t,WfA t→qe9 lo t:=by
 intro t
 induction t with
 | leaf p=>intro h;exact qz0 lo _ h (fun x hx=>by simp [j4] at hx)
 | un p x ih=>intro h;exact qz0 lo _ h (fun y hy=>by simp [j4] at hy;subst hy;exact ih h.2)
 | bin p x y ihx ihy=>intro h;exact qz0 lo _ h (fun z hz=>by simp [j4] at hz;rcases hz with rfl|rfl;exact ihx h.1;exact ihy h.2)
 | tri p x y z ihx ihy ihz=>intro h;exact qz0 lo _ h (fun u hu=>by simp [j4] at hu;rcases hu with rfl|rfl|rfl;exact ihx h.2.1;exact ihy h.2.2.1;exact ihz h.2.2.2)
theorem check_any (lo:Nat) (t:Ast) (hwf:WfA t) (w:World) (v:Value) (h:IsNode lo w v t) :
  Calls Tryz.prog 58 #[v] w (DemEnds w (chkR (qa1 t))):=by
 have CLS:=v7 (class_all lo t hwf w v h)
 obtain ⟨b,rfl⟩:=h.ptr
 clear h hwf
 cases hc:qa1 t with
 | err q=>
  rw [hc] at CLS
  clear hc
  go_enter Tryz.func58,Tryz.ntmps58
  go_wp2_with (go_at_call 88;refine (q9 CLS).mono ?_;rintro e w1 ⟨hb1,h1⟩;subst h1;simp only [x4])
  exact ⟨rfl,hb1,rfl⟩
 | ok c=>
  rw [hc] at CLS
  clear hc
  cases h1:(c != 3)<;>cases h2:(c != 0)
  all_goals
   rw [chkR,h1,h2]
   simp only [Bool.and_true,Bool.and_false,Bool.and_self,Bool.false_eq_true,if_false,if_true]
   go_enter Tryz.func58,Tryz.ntmps58
   go_wp2_with (go_at_call 88;refine (q9 CLS).mono ?_;rintro e w1 ⟨hb1,h1⟩;subst h1)
   first|exact ⟨rfl,hb1,rfl⟩|(go_end0;exact ⟨hb1,rfl⟩)
end
section
theorem join_all (op:Int) (h14:¬op=14) (h15:¬op=15) (x y:V) (hx:Rng x.num) (hy:Rng y.num):qk3 op x y (qz6 op x y):=by
 by_cases h5:op=5
 ·subst h5;exact join_5 x y
 by_cases h6:op=6
 ·subst h6;exact join_6 x y
 by_cases h7:op=7
 ·subst h7;exact join_7 x y
 by_cases h8:op=8
 ·subst h8;exact join_8 x y
 by_cases h9:op=9
 ·subst h9;exact join_9 x y
 by_cases h12:op=12
 ·subst h12;exact join_12 x y
 by_cases h10:op=10
 ·subst h10;exact join_10 x y
 by_cases h13:op=13
 ·subst h13;exact join_13 x y
 by_cases h11:op=11
 ·subst h11;exact join_11 x y
 by_cases h16:op=16
 ·subst h16;exact join_16 x y hx hy
 by_cases h17:op=17
 ·subst h17;exact join_17 x y hx hy
 by_cases h18:op=18
 ·subst h18;exact join_18 x y hx hy
 by_cases h19:op=19
 ·subst h19;exact join_19 x y hx
 have hr:qz6 op x y=bV (x.kind==0):=by
  rw [qz6,if_neg h5,if_neg h6,if_neg h7,if_neg h8,if_neg h9,if_neg h12,if_neg h10,if_neg h13,if_neg h11,if_neg h14,if_neg h16,if_neg h15,if_neg h17,if_neg h18,if_neg h19]
 rw [hr]
 exact join_none op x y h5 h6 h7 h8 h9 h12 h10 h13 h11 h14 h16 h15 h17 h18 h19
end
end Go.Proofs.YtfkcaldjphakpabGreatDoor
