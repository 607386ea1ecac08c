/- The reader of programs: term, operator by operator. The reader of programs: term, whatever its operator. Programs in memory: the row of terms and the row of roots, as they grow. What is true of bytes that are a program: places lie below, numbers and texts are small. What program.Read keeps in memory while it reads. -/
import Derived.Test.YtfkcaldjphakpabGreatDoorF18
import Derived.Test.YtfkcaldjphakpabGreatDoorF16
import Derived.Test.YtfkcaldjphakpabGreatDoorF12
import Derived.Deep.AppendLies
set_option maxHeartbeats 1000000
namespace Go.Proofs.YtfkcaldjphakpabGreatDoor
open Go.RowKit
section
set_option linter.unusedSimpArgs false
set_option linter.unusedVariables false
theorem pterm_c (rb:Nat) (s:Ps) (pl:Nat) (w:World) (op:Nat) (hop:op=3∨op=4) (h:PsAt w rb s) (hpl:pl≤255) (ho:s.next.1.toNat=op) :
  Calls Tryz.prog 68 #[.pointer (some ⟨rb,0,none⟩),.int .i64 pl] w (qi4 rb w (s.next.2.body pl op)):=by
 have hlt:=h.lt
 have n0:¬w.heap.size=rb:=by omega
 have HP:Hid (∀o,PsAt (w.alloc o) rb s):=v7 fun o=>h.alloc o
 have T:Hid (∀w,PsAt w rb s→_):=v7 fun w h=>qk6 rb s w h
 rw [ho] at T
 obtain ⟨s1,hs1⟩:∃s1,s.next.2=s1:=⟨_,rfl⟩
 rw [hs1] at T ⊢
 have hb:s1.body pl op=(⟨op,0,0,0,[],[]⟩,s1):=by rcases hop with rfl|rfl<;>simp [Ps.body,qf7,Tm.bare]
 have HN:Hid (∀(w1:World) ty,TmAt (w1.alloc (.cells #[.int .i64 (op:Nat),.int .i64 0,.int .i64 0,.int .i64 0,.string ⟨#[]⟩,.string ⟨#[]⟩] ty)) w1.heap.size (.bare op)):=v7 fun w1 ty=>TmAt.new w1 op ty
 rw [hb]
 clear h hb ho hs1
 rcases hop with rfl|rfl
 all_goals
  go_enter Tryz.func68,Tryz.ntmps68
  go_wp2_with (first|(go_at_call 98;refine (q9 T _ (q9 HP _)).mono ?_;rintro e w1 ⟨rfl,hr1,hk1⟩;have hr1:=v7 hr1;have HA1:=v7 ((TmAt.new w 0 142).kept hk1 n0);obtain ⟨al,a0,a1,a2,a3,a4,a5,af⟩:=q9 HA1;simp only [Tm.bare] at a0 a1 a2 a3 a4 a5;have K1:Hid (Kept rb w w1):=v7 (((Kept.refl rb w).alloc _).trans hk1);have zz1:w.heap.size<w1.heap.size:=al;have nb:¬w1.heap.size=rb:=(by omega);have nab:¬w.heap.size=w1.heap.size:=(by omega);have nba:¬w1.heap.size=w.heap.size:=(by omega);have HB1:=v7 (q9 HN w1);clear hk1))
  exact zb8 (q9 HA1) (q9 hr1) (q9 K1) hlt (Nat.le_refl _) rfl rfl rfl rfl rfl rfl rfl rfl
theorem pterm_1 (rb:Nat) (s:Ps) (pl:Nat) (w:World) (h:PsAt w rb s) (hpl:pl≤255) (ho:s.next.1.toNat=1) :
  Calls Tryz.prog 68 #[.pointer (some ⟨rb,0,none⟩),.int .i64 pl] w (qi4 rb w (s.next.2.body pl 1)):=by
 have hlt:=h.lt
 have n0:¬w.heap.size=rb:=by omega
 have HP:Hid (∀o,PsAt (w.alloc o) rb s):=v7 fun o=>h.alloc o
 have T:Hid (∀w,PsAt w rb s→_):=v7 fun w h=>qk6 rb s w h
 rw [ho] at T
 obtain ⟨s1,hs1⟩:∃s1,s.next.2=s1:=⟨_,rfl⟩
 rw [hs1] at T ⊢
 obtain ⟨p2,hp2⟩:∃p,s1.number=p:=⟨_,rfl⟩
 have T2:Hid (∀w,PsAt w rb s1→Calls Tryz.prog 100 #[.pointer (some ⟨rb,0,none⟩)] w fun e w'=>e=.returned (.int .i64 (s1.number).1)∧PsAt w' rb (s1.number).2∧Kept rb w w'):=v7 fun w h=>jm1 rb s1 w h
 rw [hp2] at T2
 have hb:s1.body pl 1=(⟨1,0,0,p2.1,[],[]⟩,p2.2):=by simp [Ps.body,qf7,Tm.bare,hp2]
 rw [hb]
 clear h hb ho hs1 hp2
 go_enter Tryz.func68,Tryz.ntmps68
 go_wp2_with (first|(go_at_call 100;refine (q9 T2 _ ((q9 hr1).alloc _)).mono ?_;rintro e w2 ⟨rfl,hr2,hk2⟩;have hr2:=v7 hr2;clear al a0 a1 a2 a3 a4 a5 af;have HA2:=v7 (((q9 HA1).alloc _).kept hk2 n0);have HB2:=v7 ((q9 HB1 _).kept hk2 nb);obtain ⟨al,a0,a1,a2,a3,a4,a5,af⟩:=q9 HA2;simp only [Tm.bare] at a0 a1 a2 a3 a4 a5;obtain ⟨bl,b0,b1,b2,b3,b4,b5,bf⟩:=q9 HB2;simp only [Tm.bare] at b0 b1 b2 b3 b4 b5;have K2:Hid (Kept rb w w2):=v7 (((q9 K1).alloc _).trans hk2);clear hk2)|(go_at_call 98;refine (q9 T _ (q9 HP _)).mono ?_;rintro e w1 ⟨rfl,hr1,hk1⟩;have hr1:=v7 hr1;have HA1:=v7 ((TmAt.new w 0 142).kept hk1 n0);obtain ⟨al,a0,a1,a2,a3,a4,a5,af⟩:=q9 HA1;simp only [Tm.bare] at a0 a1 a2 a3 a4 a5;have K1:Hid (Kept rb w w1):=v7 (((Kept.refl rb w).alloc _).trans hk1);have zz1:w.heap.size<w1.heap.size:=al;have nb:¬w1.heap.size=rb:=(by omega);have nab:¬w.heap.size=w1.heap.size:=(by omega);have nba:¬w1.heap.size=w.heap.size:=(by omega);have HB1:Hid (∀ty,TmAt (w1.alloc (.cells #[.int .i64 (1:Nat),.int .i64 0,.int .i64 0,.int .i64 0,.string ⟨#[]⟩,.string ⟨#[]⟩] ty)) w1.heap.size (.bare 1)):=v7 (fun ty=>TmAt.new w1 1 ty);clear hk1))
 exact qs3 ((q9 HA2).other (by simpa using nba) _) ((q9 hr2).later (by simp;omega) _) ((q9 K2).later (by simp;omega) _) hlt (Nat.le_refl _) rfl rfl rfl rfl rfl rfl rfl rfl
theorem pterm_22 (rb:Nat) (s:Ps) (pl:Nat) (w:World) (h:PsAt w rb s) (hpl:pl≤255) (ho:s.next.1.toNat=22) :
  Calls Tryz.prog 68 #[.pointer (some ⟨rb,0,none⟩),.int .i64 pl] w (qi4 rb w (s.next.2.body pl 22)):=by
 have hlt:=h.lt
 have n0:¬w.heap.size=rb:=by omega
 have HP:Hid (∀o,PsAt (w.alloc o) rb s):=v7 fun o=>h.alloc o
 have T:Hid (∀w,PsAt w rb s→_):=v7 fun w h=>qk6 rb s w h
 rw [ho] at T
 obtain ⟨s1,hs1⟩:∃s1,s.next.2=s1:=⟨_,rfl⟩
 rw [hs1] at T ⊢
 obtain ⟨p2,hp2⟩:∃p,s1.upTo ((pl:Int) - 1)=p:=⟨_,rfl⟩
 have T2:Hid (∀w,PsAt w rb s1→_):=v7 fun w h=>qn8 rb s1 ((pl:Int) - 1) w h
 rw [hp2] at T2
 obtain ⟨p3,hp3⟩:∃p,p2.2.text 1=p:=⟨_,rfl⟩
 have T3:Hid (∀w,PsAt w rb p2.2→_):=v7 fun w h=>vc6 rb p2.2 1 w h
 rw [hp3] at T3
 obtain ⟨p4,hp4⟩:∃p,p3.2.text 200=p:=⟨_,rfl⟩
 have T4:Hid (∀w,PsAt w rb p3.2→_):=v7 fun w h=>vc6 rb p3.2 200 w h
 rw [hp4] at T4
 have hb:s1.body pl 22=(⟨22,p2.1,0,0,p4.1,p3.1⟩,p4.2):=by simp [Ps.body,qf7,Tm.bare,hp2,hp3,hp4]
 rw [hb]
 clear h hb ho hs1 hp2 hp3 hp4
 go_enter Tryz.func68,Tryz.ntmps68
 go_wp2_with (first|(go_at_call 101;refine (q9 T4 _ ((q9 hr3).later (by simp;omega) _)).mono ?_;rintro e w4 ⟨rfl,hr4,hk4⟩;have hr4:=v7 hr4;clear al a0 a1 a2 a3 a4 a5 af bl b0 b1 b2 b3 b4 b5 bf;have HA4:=v7 (((q9 HA3).other (by simpa using nba) _).kept hk4 n0);have HB4:=v7 (((q9 HB3).esc' _).kept hk4 nb);obtain ⟨al,a0,a1,a2,a3,a4,a5,af⟩:=q9 HA4;simp only [Tm.bare] at a0 a1 a2 a3 a4 a5;obtain ⟨bl,b0,b1,b2,b3,b4,b5,bf⟩:=q9 HB4;simp only [Tm.bare] at b0 b1 b2 b3 b4 b5;have K4:Hid (Kept rb w w4):=v7 (((q9 K3).later (by simp;omega) _).trans hk4);clear hk4)|(go_at_call 101;refine (q9 T3 _ ((q9 hr2).later (by simp;omega) _)).mono ?_;rintro e w3 ⟨rfl,hr3,hk3⟩;have hr3:=v7 hr3;clear al a0 a1 a2 a3 a4 a5 af bl b0 b1 b2 b3 b4 b5 bf;have HA3:=v7 (((q9 HA2).other (by simpa using nba) _).kept hk3 n0);have HB3:=v7 (((q9 HB2).left' _).kept hk3 nb);obtain ⟨al,a0,a1,a2,a3,a4,a5,af⟩:=q9 HA3;simp only [Tm.bare] at a0 a1 a2 a3 a4 a5;obtain ⟨bl,b0,b1,b2,b3,b4,b5,bf⟩:=q9 HB3;simp only [Tm.bare] at b0 b1 b2 b3 b4 b5;have K3:Hid (Kept rb w w3):=v7 (((q9 K2).later (by simp;omega) _).trans hk3);clear hk3)|(go_at_call 67;refine (q9 T2 _ ((q9 hr1).alloc _)).mono ?_;rintro e w2 ⟨rfl,hr2,hk2⟩;have hr2:=v7 hr2;clear al a0 a1 a2 a3 a4 a5 af;have HA2:=v7 (((q9 HA1).alloc _).kept hk2 n0);have HB2:=v7 ((q9 HB1 _).kept hk2 nb);obtain ⟨al,a0,a1,a2,a3,a4,a5,af⟩:=q9 HA2;simp only [Tm.bare] at a0 a1 a2 a3 a4 a5;obtain ⟨bl,b0,b1,b2,b3,b4,b5,bf⟩:=q9 HB2;simp only [Tm.bare] at b0 b1 b2 b3 b4 b5;have K2:Hid (Kept rb w w2):=v7 (((q9 K1).alloc _).trans hk2);clear hk2)|(go_at_call 98;refine (q9 T _ (q9 HP _)).mono ?_;rintro e w1 ⟨rfl,hr1,hk1⟩;have hr1:=v7 hr1;have HA1:=v7 ((TmAt.new w 0 142).kept hk1 n0);obtain ⟨al,a0,a1,a2,a3,a4,a5,af⟩:=q9 HA1;simp only [Tm.bare] at a0 a1 a2 a3 a4 a5;have K1:Hid (Kept rb w w1):=v7 (((Kept.refl rb w).alloc _).trans hk1);have zz1:w.heap.size<w1.heap.size:=al;have nb:¬w1.heap.size=rb:=(by omega);have nab:¬w.heap.size=w1.heap.size:=(by omega);have nba:¬w1.heap.size=w.heap.size:=(by omega);have HB1:Hid (∀ty,TmAt (w1.alloc (.cells #[.int .i64 (22:Nat),.int .i64 0,.int .i64 0,.int .i64 0,.string ⟨#[]⟩,.string ⟨#[]⟩] ty)) w1.heap.size (.bare 22)):=v7 (fun ty=>TmAt.new w1 22 ty);clear hk1))
 exact qs3 ((q9 HA4).other (by simpa using nba) _) ((q9 hr4).later (by simp;omega) _) ((q9 K4).later (by simp;omega) _) hlt (Nat.le_refl _) rfl rfl rfl rfl rfl rfl rfl rfl
theorem pterm_0 (rb:Nat) (s:Ps) (pl:Nat) (w:World) (h:PsAt w rb s) (hpl:pl≤255) (ho:s.next.1.toNat=0) :
  Calls Tryz.prog 68 #[.pointer (some ⟨rb,0,none⟩),.int .i64 pl] w (qi4 rb w (s.next.2.body pl 0)):=by
 have hlt:=h.lt
 have n0:¬w.heap.size=rb:=by omega
 have HP:Hid (∀o,PsAt (w.alloc o) rb s):=v7 fun o=>h.alloc o
 have T:Hid (∀w,PsAt w rb s→_):=v7 fun w h=>qk6 rb s w h
 rw [ho] at T
 obtain ⟨s1,hs1⟩:∃s1,s.next.2=s1:=⟨_,rfl⟩
 rw [hs1] at T ⊢
 obtain ⟨p2,hp2⟩:∃p,s1.text 200=p:=⟨_,rfl⟩
 have T2:Hid (∀w,PsAt w rb s1→_):=v7 fun w h=>vc6 rb s1 200 w h
 rw [hp2] at T2
 have hb:s1.body pl 0=(⟨0,0,0,0,p2.1,[]⟩,p2.2):=by simp [Ps.body,qf7,Tm.bare,hp2]
 rw [hb]
 clear h hb ho hs1 hp2
 go_enter Tryz.func68,Tryz.ntmps68
 go_wp2_with (first|(go_at_call 101;refine (q9 T2 _ ((q9 hr1).alloc _)).mono ?_;rintro e w2 ⟨rfl,hr2,hk2⟩;have hr2:=v7 hr2;clear al a0 a1 a2 a3 a4 a5 af;have HA2:=v7 (((q9 HA1).alloc _).kept hk2 n0);have HB2:=v7 ((q9 HB1 _).kept hk2 nb);obtain ⟨al,a0,a1,a2,a3,a4,a5,af⟩:=q9 HA2;simp only [Tm.bare] at a0 a1 a2 a3 a4 a5;obtain ⟨bl,b0,b1,b2,b3,b4,b5,bf⟩:=q9 HB2;simp only [Tm.bare] at b0 b1 b2 b3 b4 b5;have K2:Hid (Kept rb w w2):=v7 (((q9 K1).alloc _).trans hk2);clear hk2)|(go_at_call 98;refine (q9 T _ (q9 HP _)).mono ?_;rintro e w1 ⟨rfl,hr1,hk1⟩;have hr1:=v7 hr1;have HA1:=v7 ((TmAt.new w 0 142).kept hk1 n0);obtain ⟨al,a0,a1,a2,a3,a4,a5,af⟩:=q9 HA1;simp only [Tm.bare] at a0 a1 a2 a3 a4 a5;have K1:Hid (Kept rb w w1):=v7 (((Kept.refl rb w).alloc _).trans hk1);have zz1:w.heap.size<w1.heap.size:=al;have nb:¬w1.heap.size=rb:=(by omega);have nab:¬w.heap.size=w1.heap.size:=(by omega);have nba:¬w1.heap.size=w.heap.size:=(by omega);have HB1:Hid (∀ty,TmAt (w1.alloc (.cells #[.int .i64 (0:Nat),.int .i64 0,.int .i64 0,.int .i64 0,.string ⟨#[]⟩,.string ⟨#[]⟩] ty)) w1.heap.size (.bare 0)):=v7 (fun ty=>TmAt.new w1 0 ty);clear hk1))
 exact qs3 ((q9 HA2).other (by simpa using nba) _) ((q9 hr2).later (by simp;omega) _) ((q9 K2).later (by simp;omega) _) hlt (Nat.le_refl _) rfl rfl rfl rfl rfl rfl rfl rfl
theorem pterm_2 (rb:Nat) (s:Ps) (pl:Nat) (w:World) (h:PsAt w rb s) (hpl:pl≤255) (ho:s.next.1.toNat=2) :
  Calls Tryz.prog 68 #[.pointer (some ⟨rb,0,none⟩),.int .i64 pl] w (qi4 rb w (s.next.2.body pl 2)):=by
 have hlt:=h.lt
 have n0:¬w.heap.size=rb:=by omega
 have HP:Hid (∀o,PsAt (w.alloc o) rb s):=v7 fun o=>h.alloc o
 have T:Hid (∀w,PsAt w rb s→_):=v7 fun w h=>qk6 rb s w h
 rw [ho] at T
 obtain ⟨s1,hs1⟩:∃s1,s.next.2=s1:=⟨_,rfl⟩
 rw [hs1] at T ⊢
 obtain ⟨p2,hp2⟩:∃p,s1.text 200=p:=⟨_,rfl⟩
 have T2:Hid (∀w,PsAt w rb s1→_):=v7 fun w h=>vc6 rb s1 200 w h
 rw [hp2] at T2
 have hb:s1.body pl 2=(⟨2,0,0,0,p2.1,[]⟩,p2.2):=by simp [Ps.body,qf7,Tm.bare,hp2]
 rw [hb]
 clear h hb ho hs1 hp2
 go_enter Tryz.func68,Tryz.ntmps68
 go_wp2_with (first|(go_at_call 101;refine (q9 T2 _ ((q9 hr1).alloc _)).mono ?_;rintro e w2 ⟨rfl,hr2,hk2⟩;have hr2:=v7 hr2;clear al a0 a1 a2 a3 a4 a5 af;have HA2:=v7 (((q9 HA1).alloc _).kept hk2 n0);have HB2:=v7 ((q9 HB1 _).kept hk2 nb);obtain ⟨al,a0,a1,a2,a3,a4,a5,af⟩:=q9 HA2;simp only [Tm.bare] at a0 a1 a2 a3 a4 a5;obtain ⟨bl,b0,b1,b2,b3,b4,b5,bf⟩:=q9 HB2;simp only [Tm.bare] at b0 b1 b2 b3 b4 b5;have K2:Hid (Kept rb w w2):=v7 (((q9 K1).alloc _).trans hk2);clear hk2)|(go_at_call 98;refine (q9 T _ (q9 HP _)).mono ?_;rintro e w1 ⟨rfl,hr1,hk1⟩;have hr1:=v7 hr1;have HA1:=v7 ((TmAt.new w 0 142).kept hk1 n0);obtain ⟨al,a0,a1,a2,a3,a4,a5,af⟩:=q9 HA1;simp only [Tm.bare] at a0 a1 a2 a3 a4 a5;have K1:Hid (Kept rb w w1):=v7 (((Kept.refl rb w).alloc _).trans hk1);have zz1:w.heap.size<w1.heap.size:=al;have nb:¬w1.heap.size=rb:=(by omega);have nab:¬w.heap.size=w1.heap.size:=(by omega);have nba:¬w1.heap.size=w.heap.size:=(by omega);have HB1:Hid (∀ty,TmAt (w1.alloc (.cells #[.int .i64 (2:Nat),.int .i64 0,.int .i64 0,.int .i64 0,.string ⟨#[]⟩,.string ⟨#[]⟩] ty)) w1.heap.size (.bare 2)):=v7 (fun ty=>TmAt.new w1 2 ty);clear hk1))
 exact qs3 ((q9 HA2).other (by simpa using nba) _) ((q9 hr2).later (by simp;omega) _) ((q9 K2).later (by simp;omega) _) hlt (Nat.le_refl _) rfl rfl rfl rfl rfl rfl rfl rfl
theorem qt6 (rb:Nat) (s:Ps) (pl:Nat) (w:World) (op:Nat) (hop:op=6∨op=7∨op=8∨op=10∨op=11∨op=16∨op=17∨op=18∨op=19) (h:PsAt w rb s) (hpl:pl≤255) (ho:s.next.1.toNat=op) :
  Calls Tryz.prog 68 #[.pointer (some ⟨rb,0,none⟩),.int .i64 pl] w (qi4 rb w (s.next.2.body pl op)):=by
 have hlt:=h.lt
 have n0:¬w.heap.size=rb:=by omega
 have HP:Hid (∀o,PsAt (w.alloc o) rb s):=v7 fun o=>h.alloc o
 have T:Hid (∀w,PsAt w rb s→_):=v7 fun w h=>qk6 rb s w h
 rw [ho] at T
 obtain ⟨s1,hs1⟩:∃s1,s.next.2=s1:=⟨_,rfl⟩
 rw [hs1] at T ⊢
 obtain ⟨p2,hp2⟩:∃p,s1.upTo ((pl:Int) - 1)=p:=⟨_,rfl⟩
 have T2:Hid (∀w,PsAt w rb s1→_):=v7 fun w h=>qn8 rb s1 ((pl:Int) - 1) w h
 rw [hp2] at T2
 obtain ⟨p3,hp3⟩:∃p,p2.2.upTo ((pl:Int) - 1)=p:=⟨_,rfl⟩
 have T3:Hid (∀w,PsAt w rb p2.2→_):=v7 fun w h=>qn8 rb p2.2 ((pl:Int) - 1) w h
 rw [hp3] at T3
 have hb:s1.body pl op=(⟨op,p3.1,p2.1,0,[],[]⟩,p3.2):=by rcases hop with rfl|rfl|rfl|rfl|rfl|rfl|rfl|rfl|rfl<;>simp [Ps.body,qf7,Tm.bare,hp2,hp3]
 have HN:Hid (∀(w1:World) ty,TmAt (w1.alloc (.cells #[.int .i64 (op:Nat),.int .i64 0,.int .i64 0,.int .i64 0,.string ⟨#[]⟩,.string ⟨#[]⟩] ty)) w1.heap.size (.bare op)):=v7 fun w1 ty=>TmAt.new w1 op ty
 rw [hb]
 clear h hb ho hs1 hp2 hp3
 rcases hop with rfl|rfl|rfl|rfl|rfl|rfl|rfl|rfl|rfl
 all_goals
  go_enter Tryz.func68,Tryz.ntmps68
  go_wp2_with (first|(go_at_call 67;refine (q9 T3 _ ((q9 hr2).later (by simp;omega) _)).mono ?_;rintro e w3 ⟨rfl,hr3,hk3⟩;have hr3:=v7 hr3;clear al a0 a1 a2 a3 a4 a5 af bl b0 b1 b2 b3 b4 b5 bf;have HA3:=v7 (((q9 HA2).other (by simpa using nba) _).kept hk3 n0);have HB3:=v7 (((q9 HB2).right' _).kept hk3 nb);obtain ⟨al,a0,a1,a2,a3,a4,a5,af⟩:=q9 HA3;simp only [Tm.bare] at a0 a1 a2 a3 a4 a5;obtain ⟨bl,b0,b1,b2,b3,b4,b5,bf⟩:=q9 HB3;simp only [Tm.bare] at b0 b1 b2 b3 b4 b5;have K3:Hid (Kept rb w w3):=v7 (((q9 K2).later (by simp;omega) _).trans hk3);clear hk3)|(go_at_call 67;refine (q9 T2 _ ((q9 hr1).alloc _)).mono ?_;rintro e w2 ⟨rfl,hr2,hk2⟩;have hr2:=v7 hr2;clear al a0 a1 a2 a3 a4 a5 af;have HA2:=v7 (((q9 HA1).alloc _).kept hk2 n0);have HB2:=v7 ((q9 HB1 _).kept hk2 nb);obtain ⟨al,a0,a1,a2,a3,a4,a5,af⟩:=q9 HA2;simp only [Tm.bare] at a0 a1 a2 a3 a4 a5;obtain ⟨bl,b0,b1,b2,b3,b4,b5,bf⟩:=q9 HB2;simp only [Tm.bare] at b0 b1 b2 b3 b4 b5;have K2:Hid (Kept rb w w2):=v7 (((q9 K1).alloc _).trans hk2);clear hk2)|(go_at_call 98;refine (q9 T _ (q9 HP _)).mono ?_;rintro e w1 ⟨rfl,hr1,hk1⟩;have hr1:=v7 hr1;have HA1:=v7 ((TmAt.new w 0 142).kept hk1 n0);obtain ⟨al,a0,a1,a2,a3,a4,a5,af⟩:=q9 HA1;simp only [Tm.bare] at a0 a1 a2 a3 a4 a5;have K1:Hid (Kept rb w w1):=v7 (((Kept.refl rb w).alloc _).trans hk1);have zz1:w.heap.size<w1.heap.size:=al;have nb:¬w1.heap.size=rb:=(by omega);have nab:¬w.heap.size=w1.heap.size:=(by omega);have nba:¬w1.heap.size=w.heap.size:=(by omega);have HB1:=v7 (q9 HN w1);clear hk1))
  exact qs3 ((q9 HA3).other (by simpa using nba) _) ((q9 hr3).later (by simp;omega) _) ((q9 K3).later (by simp;omega) _) hlt (Nat.le_refl _) rfl rfl rfl rfl rfl rfl rfl rfl
theorem pterm_u (rb:Nat) (s:Ps) (pl:Nat) (w:World) (op:Nat) (hop:op=5∨op=23) (h:PsAt w rb s) (hpl:pl≤255) (ho:s.next.1.toNat=op) :
  Calls Tryz.prog 68 #[.pointer (some ⟨rb,0,none⟩),.int .i64 pl] w (qi4 rb w (s.next.2.body pl op)):=by
 have hlt:=h.lt
 have n0:¬w.heap.size=rb:=by omega
 have HP:Hid (∀o,PsAt (w.alloc o) rb s):=v7 fun o=>h.alloc o
 have T:Hid (∀w,PsAt w rb s→_):=v7 fun w h=>qk6 rb s w h
 rw [ho] at T
 obtain ⟨s1,hs1⟩:∃s1,s.next.2=s1:=⟨_,rfl⟩
 rw [hs1] at T ⊢
 obtain ⟨p2,hp2⟩:∃p,s1.upTo ((pl:Int) - 1)=p:=⟨_,rfl⟩
 have T2:Hid (∀w,PsAt w rb s1→_):=v7 fun w h=>qn8 rb s1 ((pl:Int) - 1) w h
 rw [hp2] at T2
 have hb:s1.body pl op=(⟨op,p2.1,0,0,[],[]⟩,p2.2):=by rcases hop with rfl|rfl<;>simp [Ps.body,qf7,Tm.bare,hp2]
 have HN:Hid (∀(w1:World) ty,TmAt (w1.alloc (.cells #[.int .i64 (op:Nat),.int .i64 0,.int .i64 0,.int .i64 0,.string ⟨#[]⟩,.string ⟨#[]⟩] ty)) w1.heap.size (.bare op)):=v7 fun w1 ty=>TmAt.new w1 op ty
 rw [hb]
 clear h hb ho hs1 hp2
 rcases hop with rfl|rfl
 all_goals
  go_enter Tryz.func68,Tryz.ntmps68
  go_wp2_with (first|(go_at_call 67;refine (q9 T2 _ ((q9 hr1).alloc _)).mono ?_;rintro e w2 ⟨rfl,hr2,hk2⟩;have hr2:=v7 hr2;clear al a0 a1 a2 a3 a4 a5 af;have HA2:=v7 (((q9 HA1).alloc _).kept hk2 n0);have HB2:=v7 ((q9 HB1 _).kept hk2 nb);obtain ⟨al,a0,a1,a2,a3,a4,a5,af⟩:=q9 HA2;simp only [Tm.bare] at a0 a1 a2 a3 a4 a5;obtain ⟨bl,b0,b1,b2,b3,b4,b5,bf⟩:=q9 HB2;simp only [Tm.bare] at b0 b1 b2 b3 b4 b5;have K2:Hid (Kept rb w w2):=v7 (((q9 K1).alloc _).trans hk2);clear hk2)|(go_at_call 98;refine (q9 T _ (q9 HP _)).mono ?_;rintro e w1 ⟨rfl,hr1,hk1⟩;have hr1:=v7 hr1;have HA1:=v7 ((TmAt.new w 0 142).kept hk1 n0);obtain ⟨al,a0,a1,a2,a3,a4,a5,af⟩:=q9 HA1;simp only [Tm.bare] at a0 a1 a2 a3 a4 a5;have K1:Hid (Kept rb w w1):=v7 (((Kept.refl rb w).alloc _).trans hk1);have zz1:w.heap.size<w1.heap.size:=al;have nb:¬w1.heap.size=rb:=(by omega);have nab:¬w.heap.size=w1.heap.size:=(by omega);have nba:¬w1.heap.size=w.heap.size:=(by omega);have HB1:=v7 (q9 HN w1);clear hk1))
  exact qs3 ((q9 HA2).other (by simpa using nba) _) ((q9 hr2).later (by simp;omega) _) ((q9 K2).later (by simp;omega) _) hlt (Nat.le_refl _) rfl rfl rfl rfl rfl rfl rfl rfl
theorem pterm_x (rb:Nat) (s:Ps) (pl:Nat) (w:World) (h:PsAt w rb s) (hpl:pl≤255) (op:Nat) (hop:op<256) (o3:¬op=3) (o4:¬op=4) (o1:¬op=1) (o22:¬op=22) (o0:¬op=0) (o2:¬op=2) (o6:¬op=6) (o7:¬op=7) (o8:¬op=8) (o10:¬op=10) (o11:¬op=11) (o16:¬op=16) (o17:¬op=17) (o18:¬op=18) (o19:¬op=19) (o5:¬op=5) (o23:¬op=23) (ho:s.next.1.toNat=op) :
  Calls Tryz.prog 68 #[.pointer (some ⟨rb,0,none⟩),.int .i64 pl] w (qi4 rb w (s.next.2.body pl op)):=by
 have hlt:=h.lt
 have n0:¬w.heap.size=rb:=by omega
 have HP:Hid (∀o,PsAt (w.alloc o) rb s):=v7 fun o=>h.alloc o
 have T:Hid (∀w,PsAt w rb s→_):=v7 fun w h=>qk6 rb s w h
 rw [ho] at T
 obtain ⟨s1,hs1⟩:∃s1,s.next.2=s1:=⟨_,rfl⟩
 rw [hs1] at T ⊢
 have T2:Hid (∀w,PsAt w rb s1→_):=v7 fun w h=>vm1 rb s1 w h
 have hip:qf7 op=false:=by simp [qf7, *]
 have hb:s1.body pl op=(⟨op,0,0,0,[],[]⟩,failS):=by simp [Ps.body,hip, *,Tm.bare]
 rw [hb]
 have hi0:(0:Int)≤(op:Int):=by omega
 have hi1:(op:Int)<256:=by omega
 have e3:((op:Int)==3)=false:=beq_eq_false_iff_ne.2 (by omega)
 have e4:((op:Int)==4)=false:=beq_eq_false_iff_ne.2 (by omega)
 have e1:((op:Int)==1)=false:=beq_eq_false_iff_ne.2 (by omega)
 have e22:((op:Int)==22)=false:=beq_eq_false_iff_ne.2 (by omega)
 have e0:((op:Int)==0)=false:=beq_eq_false_iff_ne.2 (by omega)
 have e2:((op:Int)==2)=false:=beq_eq_false_iff_ne.2 (by omega)
 have e6:((op:Int)==6)=false:=beq_eq_false_iff_ne.2 (by omega)
 have e7:((op:Int)==7)=false:=beq_eq_false_iff_ne.2 (by omega)
 have e8:((op:Int)==8)=false:=beq_eq_false_iff_ne.2 (by omega)
 have e10:((op:Int)==10)=false:=beq_eq_false_iff_ne.2 (by omega)
 have e11:((op:Int)==11)=false:=beq_eq_false_iff_ne.2 (by omega)
 have e16:((op:Int)==16)=false:=beq_eq_false_iff_ne.2 (by omega)
 have e17:((op:Int)==17)=false:=beq_eq_false_iff_ne.2 (by omega)
 have e18:((op:Int)==18)=false:=beq_eq_false_iff_ne.2 (by omega)
 have e19:((op:Int)==19)=false:=beq_eq_false_iff_ne.2 (by omega)
 have e5:((op:Int)==5)=false:=beq_eq_false_iff_ne.2 (by omega)
 have e23:((op:Int)==23)=false:=beq_eq_false_iff_ne.2 (by omega)
 clear o3 o4 o1 o22 o0 o2 o6 o7 o8 o10 o11 o16 o17 o18 o19 o5 o23 hip hop
 clear h hb ho hs1
 go_enter Tryz.func68,Tryz.ntmps68
 go_wp2_with (first|(go_at_call 99;refine (q9 T2 _ ((q9 hr1).alloc _)).mono ?_;rintro e w2 ⟨rfl,hr2,hk2⟩;have hr2:=v7 hr2;clear al a0 a1 a2 a3 a4 a5 af;have HA2:=v7 (((q9 HA1).alloc _).kept hk2 n0);have HB2:=v7 ((q9 HB1 _).kept hk2 nb);obtain ⟨al,a0,a1,a2,a3,a4,a5,af⟩:=q9 HA2;simp only [Tm.bare] at a0 a1 a2 a3 a4 a5;obtain ⟨bl,b0,b1,b2,b3,b4,b5,bf⟩:=q9 HB2;simp only [Tm.bare] at b0 b1 b2 b3 b4 b5;have K2:Hid (Kept rb w w2):=v7 (((q9 K1).alloc _).trans hk2);clear hk2)|(go_at_call 98;refine (q9 T _ (q9 HP _)).mono ?_;rintro e w1 ⟨rfl,hr1,hk1⟩;have hr1:=v7 hr1;have HA1:=v7 ((TmAt.new w 0 142).kept hk1 n0);obtain ⟨al,a0,a1,a2,a3,a4,a5,af⟩:=q9 HA1;simp only [Tm.bare] at a0 a1 a2 a3 a4 a5;have K1:Hid (Kept rb w w1):=v7 (((Kept.refl rb w).alloc _).trans hk1);have zz1:w.heap.size<w1.heap.size:=al;have nb:¬w1.heap.size=rb:=(by omega);have nab:¬w.heap.size=w1.heap.size:=(by omega);have nba:¬w1.heap.size=w.heap.size:=(by omega);have HB1:Hid (∀ty,TmAt (w1.alloc (.cells #[.int .i64 (op:Nat),.int .i64 0,.int .i64 0,.int .i64 0,.string ⟨#[]⟩,.string ⟨#[]⟩] ty)) w1.heap.size (.bare op)):=v7 (fun ty=>TmAt.new w1 op ty);clear hk1))
 exact qs3 (q9 HA2) (q9 hr2) (q9 K2) hlt (Nat.le_refl _) rfl rfl rfl rfl rfl rfl rfl rfl
end
section
theorem pterm_any (rb:Nat) (s:Ps) (pl:Nat) (w:World) (h:PsAt w rb s) (hpl:pl≤255) :
  Calls Tryz.prog 68 #[.pointer (some ⟨rb,0,none⟩),.int .i64 pl] w (qi4 rb w (s.term pl)):=by
 rw [Ps.term]
 obtain ⟨n,hn⟩:∃n,s.next.1.toNat=n:=⟨_,rfl⟩
 have hlt:n<256:=by have:=s.next.1.toNat_lt;omega
 rw [hn]
 by_cases h3:n=3
 ·subst h3;exact pterm_c rb s pl w _ (by decide) h hpl hn
 by_cases h4:n=4
 ·subst h4;exact pterm_c rb s pl w _ (by decide) h hpl hn
 by_cases h1:n=1
 ·subst h1;exact pterm_1 rb s pl w h hpl hn
 by_cases h22:n=22
 ·subst h22;exact pterm_22 rb s pl w h hpl hn
 by_cases h0:n=0
 ·subst h0;exact pterm_0 rb s pl w h hpl hn
 by_cases h2:n=2
 ·subst h2;exact pterm_2 rb s pl w h hpl hn
 by_cases h6:n=6
 ·subst h6;exact qt6 rb s pl w _ (by decide) h hpl hn
 by_cases h7:n=7
 ·subst h7;exact qt6 rb s pl w _ (by decide) h hpl hn
 by_cases h8:n=8
 ·subst h8;exact qt6 rb s pl w _ (by decide) h hpl hn
 by_cases h10:n=10
 ·subst h10;exact qt6 rb s pl w _ (by decide) h hpl hn
 by_cases h11:n=11
 ·subst h11;exact qt6 rb s pl w _ (by decide) h hpl hn
 by_cases h16:n=16
 ·subst h16;exact qt6 rb s pl w _ (by decide) h hpl hn
 by_cases h17:n=17
 ·subst h17;exact qt6 rb s pl w _ (by decide) h hpl hn
 by_cases h18:n=18
 ·subst h18;exact qt6 rb s pl w _ (by decide) h hpl hn
 by_cases h19:n=19
 ·subst h19;exact qt6 rb s pl w _ (by decide) h hpl hn
 by_cases h5:n=5
 ·subst h5;exact pterm_u rb s pl w _ (by decide) h hpl hn
 by_cases h23:n=23
 ·subst h23;exact pterm_u rb s pl w _ (by decide) h hpl hn
 exact pterm_x rb s pl w h hpl n hlt h3 h4 h1 h22 h0 h2 h6 h7 h8 h10 h11 h16 h17 h18 h19 h5 h23 hn
def vr4 (s:Ps) (pl:Nat):Prop:=∀(rb:Nat) (w:World),PsAt w rb s→Calls Tryz.prog 68 #[.pointer (some ⟨rb,0,none⟩),.int .i64 pl] w (qi4 rb w (s.term pl))
theorem je6 (s:Ps) (pl:Nat) (hpl:pl≤255):vr4 s pl:=fun rb w h=>pterm_any rb s pl w h hpl
theorem je7 (s:Ps) (pl:Nat) (hpl:pl≤255) (ho:s.next.1.toNat=0∨s.next.1.toNat=1∨s.next.1.toNat=10):vr4 s pl:=by
 intro rb w h
 rw [Ps.term]
 rcases ho with ho|ho|ho
 ·rw [ho];exact pterm_0 rb s pl w h hpl ho
 ·rw [ho];exact pterm_1 rb s pl w h hpl ho
 ·rw [ho];exact qt6 rb s pl w _ (by decide) h hpl ho
end
section
def qd0 (s:Ps):Nat→List Tm×Ps
 | 0=>([],s)
 | k+1=>((qd0 s k).1++[((qd0 s k).2.term k).1],((qd0 s k).2.term k).2)
def qg2 (m:Int) (s:Ps):Nat→List Nat×Ps
 | 0=>([],s)
 | k+1=>((qg2 m s k).1++[((qg2 m s k).2.upTo m).1],((qg2 m s k).2.upTo m).2)
theorem qw2 (s:Ps) (k:Nat):(qd0 s k).1.length=k:=by
 induction k with
 | zero=>rfl
 | succ k ih=>rw [qd0,List.length_append,ih];rfl
theorem vc8 (m:Int) (s:Ps) (k:Nat):(qg2 m s k).1.length=k:=by
 induction k with
 | zero=>rfl
 | succ k ih=>rw [qg2,List.length_append,ih];rfl
def vc7 (code:List UInt8):Nat×Ps:=Ps.upTo ⟨code,false⟩ 80
def qz7 (code:List UInt8):Nat×Ps:=(vc7 code).2.upTo 8
def za0 (code:List UInt8):List Tm×Ps:=qd0 (qz7 code).2 (vc7 code).1
def jd5 (code:List UInt8):List Nat×Ps:=qg2 (((vc7 code).1:Int) - 1) (za0 code).2 (qz7 code).1
def qt7 (code:List UInt8):List Tm×List Nat×Bool:=((za0 code).1,(jd5 code).1,!(jd5 code).2.bad&&((jd5 code).2.rest.length==0))
def qm9 (ts:List Tm):List Value:=ts.flatMap qs4
def qj3 (l:List Nat):List Value:=l.map fun n:Nat=>.int .i64 (n:Int)
theorem vj8:(Tryz.prog.info? 142).map (fun i=>(i.zero,i.size,i.bytes))=some (some (.agg #[.int .i64 0,.int .i64 0,.int .i64 0,.int .i64 0,.string ⟨#[]⟩,.string ⟨#[]⟩]),6,64):=by kernel_rfl
theorem qu2:(Tryz.prog.info? 3).map (fun i=>(i.zero,i.size,i.bytes))=some (some (.int .i64 0),1,8):=by kernel_rfl
def TsAt (w:World) (base:Nat) (v:Value) (ts:List Tm):Prop:=w.ownsRow base 142 6 v ts.length (qm9 ts)
def IsAt (w:World) (base:Nat) (v:Value) (l:List Nat):Prop:=w.ownsRow base 3 1 v l.length (qj3 l)
theorem TsAt.nil (w:World) (base:Nat):TsAt w base (.slice none 0 0) []:=⟨rfl,.inl ⟨rfl,rfl⟩⟩
theorem IsAt.nil (w:World) (base:Nat):IsAt w base (.slice none 0 0) []:=⟨rfl,.inl ⟨rfl,rfl⟩⟩
theorem j3 {base e size n:Nat} {w w':World} {v:Value} {xs:List Value} (h:w.ownsRow base e size v n xs) (hk:∀g,v.ownBlock=some g→w'.heap[g]?=w.heap[g]?):w'.ownsRow base e size v n xs:=by
 refine ⟨h.1, ?_⟩
 rcases h.2 with hn|⟨g,cap,cur,rfl,hbg,hgg,rest⟩
 ·exact .inl hn
 ·exact .inr ⟨g,cap,cur,rfl,hbg,(hk g rfl).trans hgg,rest⟩
theorem je8 {ts:List Tm} {i:Nat} {t:Tm} (h:ts[i]?=some t) {j:Nat} {u:Value} (hj:(qs4 t)[j]?=some u):(qm9 ts)[i * 6+j]?=some u:=by
 have hj6:j<6:=by have:=(List.getElem?_eq_some_iff.1 hj).1;simpa [qs4] using this
 induction ts generalizing i with
 | nil=>simp at h
 | cons t' ts ih=>
  rw [qm9,List.flatMap_cons,←qm9]
  cases i with
  | zero=>
   simp at h
   subst h
   rw [List.getElem?_append_left (by show _<6;omega),Nat.zero_mul,Nat.zero_add]
   exact hj
  | succ i=>
   rw [List.getElem?_append_right (by show 6≤_;omega),show (i+1) * 6+j - (qs4 t').length=i * 6+j by show _ - 6=_;omega]
   exact ih (by simpa using h)
end
section
theorem vy0 {s:Ps} {n:Nat} (h:(s.take n).2.bad=false):s.bad=false∧n≤s.rest.length:=by
 rw [Ps.take] at h
 split at h
 ·exact ⟨h,by assumption⟩
 ·simp [failS] at h
theorem js2 {s:Ps} (h:s.next.2.bad=false):s.bad=false:=(vy0 (n:=1) h).1
theorem qt1 {s:Ps} {m:Int} (h:(s.upTo m).2.bad=false):s.bad=false∧((s.upTo m).1:Int)≤m:=by
 rw [Ps.upTo] at h ⊢
 split at h
 ·simp [failS] at h
 ·rename_i hm
  rw [if_neg hm]
  exact ⟨js2 h,by show (s.next.1.toNat:Int)≤m;omega⟩
theorem jy7 {s:Ps} (h:s.number.2.bad=false):s.bad=false:=(vy0 (n:=8) h).1
theorem vy1 {s:Ps} {m:Int} (h:(s.text m).2.bad=false):s.bad=false∧((s.text m).1.length:Int)≤m:=by
 have h1:=vy0 (s:=(s.upTo m).2) (n:=(s.upTo m).1) h
 have h2:=qt1 h1.1
 refine ⟨h2.1, ?_⟩
 rw [Ps.text,Ps.take_length]
 exact h2.2
theorem numS_rng (m:Int) (k:Nat) (x:UInt8):Rng (numS m k x):=by
 have h:∀n:Int,Rng (IntKind.i64.wrap n):=fun n=>by have:=jt2 n;rw [IntKind.wrap_i64];unfold wrap64 at this;exact this
 unfold numS bits
 exact h _
theorem numK_rng (l:List UInt8) (k:Nat):Rng (numK l k):=by
 cases k with
 | zero=>exact ⟨by show (_:Int)≤0;decide,by show (0:Int)≤_;decide⟩
 | succ k=>exact numS_rng _ _ _
structure FitsT (pl:Nat) (t:Tm):Prop where
 op:t.op≤23
 num:Rng t.num
 str:t.str.length≤200
 esc:t.esc.length≤1
 sides:5≤t.op→t.left<pl∧t.right<pl
theorem body_fits {s:Ps} {pl op:Nat} (h:(s.body pl op).2.bad=false):s.bad=false∧FitsT pl (s.body pl op).1:=by
 have r0:Rng 0:=⟨by decide,by decide⟩
 unfold Ps.body at h ⊢
 by_cases h1:op=3∨op=4
 ·rw [if_pos h1] at h ⊢
  dsimp only at h ⊢
  exact ⟨h,by show op≤23;omega,r0,Nat.zero_le _,Nat.zero_le _,fun h5=>by have:5≤op:=h5;omega⟩
 rw [if_neg h1] at h ⊢
 by_cases h2:op=1
 ·rw [if_pos h2] at h ⊢
  dsimp only at h ⊢
  exact ⟨jy7 h,by show op≤23;omega,numK_rng _ _,Nat.zero_le _,Nat.zero_le _,fun h5=>by have:5≤op:=h5;omega⟩
 rw [if_neg h2] at h ⊢
 by_cases h3:op=22
 ·rw [if_pos h3] at h ⊢
  dsimp only at h ⊢
  have a:=vy1 (s:=((s.upTo ((pl:Int) - 1)).2.text 1).2) (m:=200) h
  have b:=vy1 (s:=(s.upTo ((pl:Int) - 1)).2) (m:=1) a.1
  have c:=qt1 (s:=s) (m:=(pl:Int) - 1) b.1
  refine ⟨c.1,by show op≤23;omega,r0,by have:=a.2;dsimp only;omega,by have:=b.2;dsimp only;omega,fun _=>?_⟩
  have:=c.2
  exact ⟨by dsimp only;omega,by show 0<pl;omega⟩
 rw [if_neg h3] at h ⊢
 by_cases h4:op=0∨op=2
 ·rw [if_pos h4] at h ⊢
  dsimp only at h ⊢
  have a:=vy1 (s:=s) (m:=200) h
  exact ⟨a.1,by show op≤23;omega,r0,by have:=a.2;dsimp only;omega,Nat.zero_le _,fun h5=>by have:5≤op:=h5;omega⟩
 rw [if_neg h4] at h ⊢
 by_cases h5:qf7 op=true
 ·rw [if_pos h5] at h ⊢
  dsimp only at h ⊢
  have a:=qt1 (s:=(s.upTo ((pl:Int) - 1)).2) (m:=(pl:Int) - 1) h
  have b:=qt1 (s:=s) (m:=(pl:Int) - 1) a.1
  refine ⟨b.1, ?_,r0,Nat.zero_le _,Nat.zero_le _,fun _=>?_⟩
  ·simp [qf7] at h5
   show op≤23
   omega
  ·have:=a.2
   have:=b.2
   exact ⟨by dsimp only;omega,by dsimp only;omega⟩
 rw [if_neg h5] at h ⊢
 by_cases h6:op=5∨op=23
 ·rw [if_pos h6] at h ⊢
  dsimp only at h ⊢
  have a:=qt1 (s:=s) (m:=(pl:Int) - 1) h
  refine ⟨a.1,by show op≤23;omega,r0,Nat.zero_le _,Nat.zero_le _,fun _=>?_⟩
  have:=a.2
  exact ⟨by dsimp only;omega,by show 0<pl;omega⟩
 rw [if_neg h6] at h
 simp [failS] at h
theorem term_fits {s:Ps} {pl:Nat} (h:(s.term pl).2.bad=false):s.bad=false∧FitsT pl (s.term pl).1:=by
 have:=body_fits h
 exact ⟨js2 this.1,this.2⟩
theorem jn7 {s:Ps} {k:Nat} (h:(qd0 s k).2.bad=false):s.bad=false∧∀i t,(qd0 s k).1[i]?=some t→FitsT i t:=by
 induction k with
 | zero=>exact ⟨h,fun i t hi=>by simp [qd0] at hi⟩
 | succ k ih=>
  have a:=term_fits h
  have b:=ih a.1
  refine ⟨b.1,fun i t hi=>?_⟩
  rw [qd0] at hi
  have hl:=qw2 s k
  rcases Nat.lt_or_ge i k with hk|hk
  ·rw [List.getElem?_append_left (by omega)] at hi
   exact b.2 i t hi
  ·have he:i=k:=by
    have:=(List.getElem?_eq_some_iff.1 hi).1
    rw [List.length_append,List.length_singleton] at this
    omega
   subst he
   rw [List.getElem?_append_right (by omega),hl,Nat.sub_self] at hi
   simp at hi
   subst hi
   exact a.2
theorem jm9 {m:Int} {s:Ps} {k:Nat} (h:(qg2 m s k).2.bad=false):s.bad=false∧∀r∈(qg2 m s k).1,(r:Int)≤m:=by
 induction k with
 | zero=>exact ⟨h,fun r hr=>by simp [qg2] at hr⟩
 | succ k ih=>
  have a:=qt1 h
  have b:=ih a.1
  refine ⟨b.1,fun r hr=>?_⟩
  rw [qg2,List.mem_append] at hr
  rcases hr with hr|hr
  ·exact b.2 r hr
  ·simp at hr
   subst hr
   exact a.2
structure Prg (ts:List Tm) (rs:List Nat):Prop where
 terms:ts.length≤80
 roots:rs.length≤8
 fits:∀i t,ts[i]?=some t→FitsT i t
 below:∀r∈rs,r<ts.length
theorem jz9 {code:List UInt8} (h:(qt7 code).2.2=true):Prg (qt7 code).1 (qt7 code).2.1:=by
 have h':(jd5 code).2.bad=false:=by
  simp only [qt7,Bool.and_eq_true,Bool.not_eq_true'] at h
  exact h.1
 have a:=jm9 h'
 have b:=jn7 a.1
 have c:=qt1 b.1
 have d:=qt1 c.1
 have ht:(qt7 code).1.length=(vc7 code).1:=qw2 _ _
 have hr:(qt7 code).2.1.length=(qz7 code).1:=vc8 _ _ _
 refine ⟨?_, ?_,b.2,fun r hr=>?_⟩
 ·have:((vc7 code).1:Int)≤80:=d.2
  omega
 ·have:((qz7 code).1:Int)≤8:=c.2
  omega
 ·have:=a.2 r hr
  omega
end
section
theorem ve5 {rb:Nat} {a w w':World} (h:Below a.heap.size a w) (hk:Kept rb w w') (hr:a.heap.size≤rb):Below a.heap.size a w':=
 ⟨hk.os.trans h.os,hk.tape.trans h.tape,hk.output.trans h.output,Nat.le_trans h.size hk.size,fun k hlt=>(hk.block k (by have:=h.size;omega) (by omega)).trans (h.block k hlt)⟩
structure RdL (w wr:World) (rb pb:Nat) (s:Ps) (ts:List Tm) (tv:Value) (rs:List Nat) (rv:Value):Prop where
 ps:PsAt wr rb s
 c0:wr.cell? ⟨pb,0,none⟩=some tv
 c1:wr.cell? ⟨pb,1,none⟩=some rv
 fz:∀j,wr.frozen? ⟨pb,j,none⟩=false
 lo:rb<pb
 lt:pb<wr.heap.size
 ats:TsAt wr (pb+1) tv ts
 ars:IsAt wr (pb+1) rv rs
 ne:∀g,tv.ownBlock=some g→rv.ownBlock≠some g
 old:w.heap.size≤rb
 bel:Below w.heap.size w wr
theorem RdL.kept {w wr w1:World} {rb pb:Nat} {s s1:Ps} {ts:List Tm} {tv:Value} {rs:List Nat} {rv:Value} (h:RdL w wr rb pb s ts tv rs rv) (hk:Kept rb wr w1) (hp:PsAt w1 rb s1):RdL w w1 rb pb s1 ts tv rs rv:=by
 have hlo:=h.lo
 obtain ⟨hc,hf⟩:=x5 hk
 exact ⟨hp,(hc pb 0 h.lt (by omega)).trans h.c0,(hc pb 1 h.lt (by omega)).trans h.c1,fun j=>(hf pb j h.lt (by omega)).trans (h.fz j),hlo,Nat.lt_of_lt_of_le h.lt hk.size,
  qv7 h.ats hk (by omega),qv7 h.ars hk (by omega),h.ne,h.old,ve5 h.bel hk h.old⟩
theorem RdL.alloc {w wr:World} {rb pb:Nat} {s:Ps} {ts:List Tm} {tv:Value} {rs:List Nat} {rv:Value} (h:RdL w wr rb pb s ts tv rs rv) (o:Obj):RdL w (wr.alloc o) rb pb s ts tv rs rv:=
 h.kept ((Kept.refl rb wr).alloc o) (h.ps.alloc o)
theorem PsAt.drew {w:World} {rb:Nat} {s:Ps} (h:PsAt w rb s):PsAt w.drew rb s:=h.same h.lt fun _ _=>rfl
theorem Kept.drew' {rb:Nat} {w w1:World} (h:Kept rb w.drew w1):Kept rb w w1:=⟨h.os,h.tape,h.output,h.size,h.block⟩
theorem RdL.addT {w W w2:World} {rb pb:Nat} {s:Ps} {ts:List Tm} {tv:Value} {rs:List Nat} {rv:Value} (h:RdL w W rb pb s ts tv rs rv) {t:Tm} {g cap H:Nat}
  (hown:w2.ownsRow (pb+1) 142 6 (.slice (some ⟨g,0,none⟩) (ts.length+1) cap) (ts.length+1) (qm9 ts++qs4 t)) (hgrow:W.grownBy w2 tv.ownBlock) (hat:tv.ownBlock=some g∨g=H) (hH:W.heap.size=H) :
  RdL w (w2.setCell ⟨pb,0,none⟩ (.slice (some ⟨g,0,none⟩) (ts.length+1) cap)) rb pb s (ts++[t]) (.slice (some ⟨g,0,none⟩) (ts.length+1) cap) rs rv:=by
 have hlo:=h.lo
 have hlt:=h.lt
 have hrow:∀k,tv.ownBlock=some k→pb+1≤k:=fun k hk=>(h.ats.lt k hk).1
 have hz:=hgrow.size
 have hb:∀k,k≤pb→w2.heap[k]?=W.heap[k]?:=fun k hk=>hgrow.block k (by omega) (fun e=>by have:=hrow k e.symm;omega)
 have hb':∀k,k<pb→(w2.setCell ⟨pb,0,none⟩ (.slice (some ⟨g,0,none⟩) (ts.length+1) cap)).heap[k]?=W.heap[k]?:=fun k hk=>(Below.heap_setCell w2 ⟨pb,0,none⟩ _ k (by show k≠pb;omega)).trans (hb k (by omega))
 have c0:w2.cell? ⟨pb,0,none⟩=some tv:=(World.cell?_of_block (w:=W) (w':=w2) (a:=⟨pb,0,none⟩) (hb pb (Nat.le_refl _))).trans h.c0
 have c1:w2.cell? ⟨pb,1,none⟩=some rv:=(World.cell?_of_block (w:=W) (w':=w2) (a:=⟨pb,1,none⟩) (hb pb (Nat.le_refl _))).trans h.c1
 have fz:∀j,w2.frozen? ⟨pb,j,none⟩=false:=fun j=>(World.frozen?_of_block (w:=W) (w':=w2) (a:=⟨pb,j,none⟩) (hb pb (Nat.le_refl _))).trans (h.fz j)
 refine ⟨h.ps.same (by simp;omega) fun k hk=>hb' k (by omega),by simp [go_sem,c0],by simp [go_sem,c1],fun j=>by simp [go_sem,fz],hlo,by simp;omega, ?_, ?_, ?_,h.old, ?_⟩
 ·show World.ownsRow _ _ _ _ _ _ _
  rw [List.length_append,List.length_singleton,qm9,List.flatMap_append,List.flatMap_singleton]
  exact ownsRow_setCell_below hown (by show pb<pb+1;omega) _
 ·refine j3 h.ars fun g' hg'=>?_
  have hl:=h.ars.lt g' hg'
  rw [Below.heap_setCell w2 ⟨pb,0,none⟩ _ g' (by show g'≠pb;omega)]
  exact hgrow.block g' hl.2 (fun e=>h.ne g' e.symm hg')
 ·intro g0 hg0 hr
  have he:g=g0:=by simpa [Value.ownBlock] using hg0
  subst he
  rcases hat with hat|hat
  ·exact h.ne g hat hr
  ·have:=(h.ars.lt g hr).2
   omega
 ·exact ⟨(hgrow.os.trans h.bel.os),(hgrow.tape.trans h.bel.tape),(hgrow.output.trans h.bel.output),by have:=h.bel.size;simp;omega,fun k hk=>(hb' k (by have:=h.old;omega)).trans (h.bel.block k hk)⟩
theorem RdL.addR {w W w2:World} {rb pb:Nat} {s:Ps} {ts:List Tm} {tv:Value} {rs:List Nat} {rv:Value} (h:RdL w W rb pb s ts tv rs rv) {t:Nat} {g cap H:Nat}
  (hown:w2.ownsRow (pb+1) 3 1 (.slice (some ⟨g,0,none⟩) (rs.length+1) cap) (rs.length+1) (qj3 rs++[.int .i64 t])) (hgrow:W.grownBy w2 rv.ownBlock) (hat:rv.ownBlock=some g∨g=H) (hH:W.heap.size=H) :
  RdL w (w2.setCell ⟨pb,1,none⟩ (.slice (some ⟨g,0,none⟩) (rs.length+1) cap)) rb pb s ts tv (rs++[t]) (.slice (some ⟨g,0,none⟩) (rs.length+1) cap):=by
 have hlo:=h.lo
 have hlt:=h.lt
 have hrow:∀k,rv.ownBlock=some k→pb+1≤k:=fun k hk=>(h.ars.lt k hk).1
 have hz:=hgrow.size
 have hb:∀k,k≤pb→w2.heap[k]?=W.heap[k]?:=fun k hk=>hgrow.block k (by omega) (fun e=>by have:=hrow k e.symm;omega)
 have hb':∀k,k<pb→(w2.setCell ⟨pb,1,none⟩ (.slice (some ⟨g,0,none⟩) (rs.length+1) cap)).heap[k]?=W.heap[k]?:=fun k hk=>(Below.heap_setCell w2 ⟨pb,1,none⟩ _ k (by show k≠pb;omega)).trans (hb k (by omega))
 have c0:w2.cell? ⟨pb,0,none⟩=some tv:=(World.cell?_of_block (w:=W) (w':=w2) (a:=⟨pb,0,none⟩) (hb pb (Nat.le_refl _))).trans h.c0
 have c1:w2.cell? ⟨pb,1,none⟩=some rv:=(World.cell?_of_block (w:=W) (w':=w2) (a:=⟨pb,1,none⟩) (hb pb (Nat.le_refl _))).trans h.c1
 have fz:∀j,w2.frozen? ⟨pb,j,none⟩=false:=fun j=>(World.frozen?_of_block (w:=W) (w':=w2) (a:=⟨pb,j,none⟩) (hb pb (Nat.le_refl _))).trans (h.fz j)
 refine ⟨h.ps.same (by simp;omega) fun k hk=>hb' k (by omega),by simp [go_sem,c0],by simp [go_sem,c1],fun j=>by simp [go_sem,fz],hlo,by simp;omega, ?_, ?_, ?_,h.old, ?_⟩
 ·refine j3 h.ats fun g' hg'=>?_
  have hl:=h.ats.lt g' hg'
  rw [Below.heap_setCell w2 ⟨pb,1,none⟩ _ g' (by show g'≠pb;omega)]
  exact hgrow.block g' hl.2 (fun e=>h.ne g' hg' e.symm)
 ·show World.ownsRow _ _ _ _ _ _ _
  rw [List.length_append,List.length_singleton,qj3,List.map_append]
  exact ownsRow_setCell_below hown (by show pb<pb+1;omega) _
 ·intro g0 hg0 hr
  have he:g=g0:=by simpa [Value.ownBlock] using hr
  subst he
  rcases hat with hat|hat
  ·exact h.ne g hg0 hat
  ·have:=(h.ats.lt g hg0).2
   omega
 ·exact ⟨(hgrow.os.trans h.bel.os),(hgrow.tape.trans h.bel.tape),(hgrow.output.trans h.bel.output),by have:=h.bel.size;simp;omega,fun k hk=>(hb' k (by have:=h.old;omega)).trans (h.bel.block k hk)⟩
theorem RdL.far {w W w2:World} {rb pb:Nat} {s:Ps} {ts:List Tm} {tv:Value} {rs:List Nat} {rv:Value} (h:RdL w W rb pb s ts tv rs rv) {row:Option Nat} (hg:W.grownBy w2 row) (hr:row=tv.ownBlock∨row=rv.ownBlock) :
  w2.cell? ⟨pb,0,none⟩=some tv∧w2.cell? ⟨pb,1,none⟩=some rv∧(∀j,w2.frozen? ⟨pb,j,none⟩=false)∧pb<w2.heap.size:=by
 have hrow:∀k,row=some k→pb+1≤k:=fun k hk=>by
  rcases hr with rfl|rfl
  ·exact (h.ats.lt k hk).1
  ·exact (h.ars.lt k hk).1
 have hb:w2.heap[pb]?=W.heap[pb]?:=hg.block pb h.lt (fun e=>by have:=hrow pb e.symm;omega)
 exact ⟨(World.cell?_of_block (w:=W) (w':=w2) (a:=⟨pb,0,none⟩) hb).trans h.c0,(World.cell?_of_block (w:=W) (w':=w2) (a:=⟨pb,1,none⟩) hb).trans h.c1,fun j=>(World.frozen?_of_block (w:=W) (w':=w2) (a:=⟨pb,j,none⟩) hb).trans (h.fz j),Nat.lt_of_lt_of_le h.lt hg.size⟩
def qh7 (ats:Array TypeId) (ty:TypeId) (args:Array Value):Sem Value:=Builtin.append_ ats ty args
theorem qc3 (ats:Array TypeId) (ty:TypeId) (args:Array Value):Builtin.append_ ats ty args=qh7 ats ty args:=rfl
theorem RdL.appT {w W:World} {rb pb:Nat} {s:Ps} {ts:List Tm} {tv:Value} {rs:List Nat} {rv:Value} (h:RdL w W rb pb s ts tv rs rv) (t:Tm) (hn:ts.length≤1000) (ty:TypeId) :
  ∃g cap w5,(qh7 #[63,63] ty #[tv,.slice (some ⟨W.heap.size,0,none⟩) 1 1]).run Tryz.prog (W.alloc (.cells #[.int .i64 t.op,.int .i64 t.left,.int .i64 t.right,.int .i64 t.num,.string (BS t.str),.string (BS t.esc)] 142))=.ok (.slice (some ⟨g,0,none⟩) (ts.length+1) cap) w5 ∧
   w5.cell? ⟨pb,0,none⟩=some tv∧(∀j,w5.frozen? ⟨pb,j,none⟩=false)∧pb<w5.heap.size ∧
   Hid (RdL w (w5.setCell ⟨pb,0,none⟩ (.slice (some ⟨g,0,none⟩) (ts.length+1) cap)) rb pb s (ts++[t]) (.slice (some ⟨g,0,none⟩) (ts.length+1) cap) rs rv):=by
 obtain ⟨i0,hi,hz0,hz1,hz2⟩:=info_parts vj8
 have ha:=h.alloc (.cells #[.int .i64 t.op,.int .i64 t.left,.int .i64 t.right,.int .i64 t.num,.string (BS t.str),.string (BS t.esc)] 142)
 have hlt:=h.lt
 obtain ⟨g,cap,w5,hr,hown,hgrow,hat,_⟩:=run_append_lies (P:=Tryz.prog) (W.alloc (.cells #[.int .i64 t.op,.int .i64 t.left,.int .i64 t.right,.int .i64 t.num,.string (BS t.str),.string (BS t.esc)] 142)) 63 ty (pb+1) 142 i0 _ 6 64 Tryz.underlying63 hi hz0 hz1 hz2 rfl (by omega) tv ts.length (qm9 ts) ha.ats
  ⟨W.heap.size,0,none⟩ 1 1 (qs4 t) rfl (World.news_of_block (cs:=#[.int .i64 t.op,.int .i64 t.left,.int .i64 t.right,.int .i64 t.num,.string (BS t.str),.string (BS t.esc)]) (t:=142) (fr:=(0,0)) (heap_alloc_new W _)) (by simp [qs4,Value.oneCell']) (by omega) (by unfold maxLen;omega) (by omega) (by simp;omega) _ rfl
 obtain ⟨c5,_,f5,lt5⟩:=ha.far hgrow (.inl rfl)
 exact ⟨g,cap,w5,hr,c5,f5,lt5,v7 (ha.addT hown hgrow hat rfl)⟩
theorem RdL.appR {w W:World} {rb pb:Nat} {s:Ps} {ts:List Tm} {tv:Value} {rs:List Nat} {rv:Value} (h:RdL w W rb pb s ts tv rs rv) (r:Nat) (hn:rs.length≤1000) (ty:TypeId) :
  ∃g cap w5,(qh7 #[29,29] ty #[rv,.slice (some ⟨W.heap.size,0,none⟩) 1 1]).run Tryz.prog (W.alloc (.cells #[.int .i64 r] 3))=.ok (.slice (some ⟨g,0,none⟩) (rs.length+1) cap) w5 ∧
   w5.cell? ⟨pb,1,none⟩=some rv∧(∀j,w5.frozen? ⟨pb,j,none⟩=false)∧pb<w5.heap.size ∧
   Hid (RdL w (w5.setCell ⟨pb,1,none⟩ (.slice (some ⟨g,0,none⟩) (rs.length+1) cap)) rb pb s ts tv (rs++[r]) (.slice (some ⟨g,0,none⟩) (rs.length+1) cap)):=by
 obtain ⟨i0,hi,hz0,hz1,hz2⟩:=info_parts qu2
 have ha:=h.alloc (.cells #[.int .i64 r] 3)
 have hlt:=h.lt
 obtain ⟨g,cap,w5,hr,hown,hgrow,hat,_⟩:=run_append_lies (P:=Tryz.prog) (W.alloc (.cells #[.int .i64 r] 3)) 29 ty (pb+1) 3 i0 _ 1 8 Tryz.underlying29 hi hz0 hz1 hz2 rfl (by omega) rv rs.length (qj3 rs) ha.ars
  ⟨W.heap.size,0,none⟩ 1 1 [.int .i64 r] rfl (World.news_of_block (cs:=#[.int .i64 r]) (t:=3) (fr:=(0,0)) (heap_alloc_new W _)) (by simp [Value.oneCell']) (by omega) (by unfold maxLen;omega) (by omega) (by simp;omega) _ rfl
 obtain ⟨_,c5,f5,lt5⟩:=ha.far hgrow (.inr rfl)
 exact ⟨g,cap,w5,hr,c5,f5,lt5,v7 (ha.addR hown hgrow hat rfl)⟩
structure ProgAt (w:World) (pb o:Nat) (ts:List Tm) (rs:List Nat):Prop where
 lt:pb<w.heap.size
 c0:∃tv base,w.cell? ⟨pb,o,none⟩=some tv∧TsAt w base tv ts
 c1:∃rv base,w.cell? ⟨pb,o+1,none⟩=some rv∧IsAt w base rv rs
theorem ProgAt.below {w w':World} {pb o:Nat} {ts:List Tm} {rs:List Nat} (h:ProgAt w pb o ts rs) (hb:Below w.heap.size w w'):ProgAt w' pb o ts rs:=by
 obtain ⟨hl,⟨tv,b0,h0,h0'⟩,rv,b1,h1,h1'⟩:=h
 exact ⟨Nat.lt_of_lt_of_le hl hb.size,⟨tv,b0,(hb.cell hl).trans h0,qf0 h0' hb (Nat.le_refl _)⟩,rv,b1,(hb.cell hl).trans h1,qf0 h1' hb (Nat.le_refl _)⟩
theorem RdL.prog {w wr:World} {rb pb:Nat} {s:Ps} {ts:List Tm} {tv:Value} {rs:List Nat} {rv:Value} (h:RdL w wr rb pb s ts tv rs rv):ProgAt wr pb 0 ts rs:=
 ⟨h.lt,⟨tv,_,h.c0,h.ats⟩,rv,_,h.c1,h.ars⟩
end
end Go.Proofs.YtfkcaldjphakpabGreatDoor
