/- The reader's state in memory; the contract of (*reader).step. The contracts of (*reader).refuse, take, skip, enter. The contracts of slices.Contains over kinds, of twoSided, and of denial; terms in memory. Terms in memory; what a reading function gives. -/
import Derived.Test.YtfkcaldjphakpaaGreatDoorE07
import Derived.Deep.RegionWith
import Derived.Test.YtfkcaldjphakpaaGreatDoorWVal1
set_option maxHeartbeats 1000000
namespace Go.Proofs.YtfkcaldjphakpaaGreatDoor
open Go.RowKit
section
structure St where
 tk:Tk
 place:Nat
 after:Nat
 op:Nat
structure RdAt (w:World) (rb:Nat) (s:ByteArray) (st:St):Prop where
 c0:w.cell? ⟨rb,0,none⟩=some (.string s)
 c1:w.cell? ⟨rb,1,none⟩=some (.int .i64 st.tk.kind)
 c2:w.cell? ⟨rb,2,none⟩=some (.int .i64 st.place)
 c3:w.cell? ⟨rb,3,none⟩=some (.int .i64 st.tk.num)
 c4:w.cell? ⟨rb,4,none⟩=some (.string (BS st.tk.str))
 c5:w.cell? ⟨rb,5,none⟩=some (.int .i64 st.after)
 c6:w.cell? ⟨rb,6,none⟩=some (.int .i64 st.op)
 fz:∀j,w.frozen? ⟨rb,j,none⟩=false
structure Kept (rb:Nat) (w w':World):Prop where
 os:w'.os=w.os
 tape:w'.tape=w.tape
 output:w'.output=w.output
 size:w.heap.size≤w'.heap.size
 block:∀k,k<w.heap.size→k≠rb→w'.heap[k]?=w.heap[k]?
theorem Kept.refl (rb:Nat) (w:World):Kept rb w w:=⟨rfl,rfl,rfl,Nat.le_refl _,fun _ _ _=>rfl⟩
theorem Kept.trans {rb:Nat} {a b c:World} (h:Kept rb a b) (k:Kept rb b c):Kept rb a c:=
 ⟨k.os.trans h.os,k.tape.trans h.tape,k.output.trans h.output,Nat.le_trans h.size k.size,fun i hi hn=>(k.block i (Nat.lt_of_lt_of_le hi h.size) hn).trans (h.block i hi hn)⟩
theorem Kept.of_below {rb:Nat} {w w':World} (h:Below w.heap.size w w'):Kept rb w w':=⟨h.os,h.tape,h.output,h.size,fun k hk _=>h.block k hk⟩
theorem Kept.drew {rb:Nat} {a w:World} (h:Kept rb a w):Kept rb a w.drew:=⟨h.os,h.tape,h.output,h.size,h.block⟩
theorem Kept.setCell {rb:Nat} {a w:World} (h:Kept rb a w) (j:Nat) (u:Value):Kept rb a (w.setCell ⟨rb,j,none⟩ u):=by
 have hb:=(Below.refl 0 w).setCell (p:=⟨rb,j,none⟩) (Nat.zero_le _) u
 refine ⟨hb.os.trans h.os,hb.tape.trans h.tape,hb.output.trans h.output,Nat.le_trans h.size hb.size,fun k hk hn=>?_⟩
 rw [Below.heap_setCell w ⟨rb,j,none⟩ u k hn];exact h.block k hk hn
theorem Kept.alloc {rb:Nat} {a w:World} (h:Kept rb a w) (o:Obj):Kept rb a (w.alloc o):=
 h.trans (Kept.of_below ((Below.refl _ _).alloc (Nat.le_refl _) o))
theorem RdAt.below {w w':World} {rb:Nat} {s:ByteArray} {st:St} (h:RdAt w rb s st) (hb:Below w.heap.size w w') (hlt:rb<w.heap.size):RdAt w' rb s st:=
 ⟨(hb.cell hlt).trans h.c0,(hb.cell hlt).trans h.c1,(hb.cell hlt).trans h.c2,(hb.cell hlt).trans h.c3,(hb.cell hlt).trans h.c4,(hb.cell hlt).trans h.c5,(hb.cell hlt).trans h.c6,fun j=>(hb.frozen hlt).trans (h.fz j)⟩
theorem ErrOk.kept {rb:Nat} {w w':World} (h:ErrOk w) (k:Kept rb w w') (hrb:3<rb):ErrOk w':=by
 obtain ⟨h1,ev,h2,h3⟩:=h
 refine ⟨Nat.lt_of_lt_of_le h1 k.size,ev, ?_,h3⟩
 rw [World.cell?_of_block (w:=w) (w':=w') (k.block _ h1 (by show 3≠rb;omega))];exact h2
def v6 (s:ByteArray) (st:St):St:=⟨qd3 s.data.toList st.after,qe8 s.data.toList st.after,qh8 s.data.toList st.after,st.op⟩
theorem qc9 (rb:Nat) (s:ByteArray) (st:St) (w:World) (hs:s.size≤140737488355328) (ha:st.after≤s.size) (hr:RdAt w rb s st) (hlt:rb<w.heap.size) (hE:ErrOk w) :
  Calls Tryz.prog 54 #[.pointer (some ⟨rb,0,none⟩)] w fun e w'=>e=.returned (.tuple #[])∧RdAt w' rb s (v6 s st)∧Kept rb w w':=by
 have HR:=v7 hr
 obtain ⟨c0,c1,c2,c3,c4,c5,c6,fz⟩:=hr
 go_enter Tryz.func54,Tryz.ntmps54
 go_wp2_with fail
 go_region_with (go_at_call 100;refine (next_any s hs st.after ha _ (by exact hE)).mono ?_;rintro e w1 ⟨rfl,hb1⟩;have hb2:Below w.heap.size w w1:=((Below.refl w.heap.size w).drew).trans hb1;clear hb1;obtain ⟨d0,d1,d2,d3,d4,d5,d6,dz⟩:=(q9 HR).below hb2 hlt;simp only [tkV])
 all_goals (go_wp2_with fail)
 all_goals go_end0
 all_goals refine ⟨rfl,⟨?_, ?_, ?_, ?_, ?_, ?_, ?_, ?_⟩,(((((Kept.of_below hb2).setCell 1 _).setCell 2 _).setCell 3 _).setCell 4 _).setCell 5 _⟩
 all_goals first|(simp [go_sem,v6,d0,d1,d2,d3,d4,d5,d6];done)|(intro j;simp [go_sem,dz];done)
end
section
def qa1 (en pl:Int):Ending:=.panicked [{ v:=.iface 88 (.agg #[.int .i64 en,.int .i64 pl]),recovered:=false }]
theorem qy7 (r:Value) (pl:Int) (w:World) :
  Calls Tryz.prog 103 #[r,.int .i64 pl] w fun e w'=>e=qa1 2 pl∧w'=w:=by
 go_enter Tryz.func103,Tryz.ntmps103
 go_wp2_with fail
 exact ⟨rfl,rfl,rfl⟩
theorem RdAt.allocd {w:World} {rb:Nat} {s:ByteArray} {st:St} (h:RdAt w rb s st) (o:Obj) (hlt:rb<w.heap.size):RdAt (w.alloc o) rb s st:=
 h.below ((Below.refl _ _).alloc (Nat.le_refl _) o) hlt
theorem qa5 {rb:Nat} {W w1:World} (hk:Kept rb W w1):(∀b o,b<W.heap.size→¬b=rb→w1.cell? ⟨b,o,none⟩=W.cell? ⟨b,o,none⟩)∧(∀b o,b<W.heap.size→¬b=rb→w1.frozen? ⟨b,o,none⟩=W.frozen? ⟨b,o,none⟩):=
 ⟨fun b o h hn=>World.cell?_of_block (w:=W) (w':=w1) (a:=⟨b,o,none⟩) (hk.block b h hn),fun b o h hn=>World.frozen?_of_block (w:=W) (w':=w1) (a:=⟨b,o,none⟩) (hk.block b h hn)⟩
theorem Kept.later {rb:Nat} {a w:World} (h:Kept rb a w) {p:Addr} (hp:a.heap.size≤p.block) (u:Value):Kept rb a (w.setCell p u):=by
 have hb:=(Below.refl 0 w).setCell (p:=p) (Nat.zero_le _) u
 refine ⟨hb.os.trans h.os,hb.tape.trans h.tape,hb.output.trans h.output,Nat.le_trans h.size hb.size,fun k hk hn=>?_⟩
 rw [Below.heap_setCell w p u k (by omega)];exact h.block k hk hn
theorem RdAt.setOther {w:World} {rb:Nat} {s:ByteArray} {st:St} (h:RdAt w rb s st) {p:Addr} (hp:¬p.block=rb) (u:Value):RdAt (w.setCell p u) rb s st:=by
 have hb:=Below.heap_setCell w p u rb (by omega)
 have hc:∀j,(w.setCell p u).cell? ⟨rb,j,none⟩=w.cell? ⟨rb,j,none⟩:=fun j=>World.cell?_of_block (w:=w) (w':=w.setCell p u) (a:=⟨rb,j,none⟩) hb
 have hf:∀j,(w.setCell p u).frozen? ⟨rb,j,none⟩=w.frozen? ⟨rb,j,none⟩:=fun j=>World.frozen?_of_block (w:=w) (w':=w.setCell p u) (a:=⟨rb,j,none⟩) hb
 exact ⟨(hc 0).trans h.c0,(hc 1).trans h.c1,(hc 2).trans h.c2,(hc 3).trans h.c3,(hc 4).trans h.c4,(hc 5).trans h.c5,(hc 6).trans h.c6,fun j=>(hf j).trans (h.fz j)⟩
theorem qc3 (rb:Nat) (s:ByteArray) (st:St) (k:Int) (w:World) (hs:s.size≤140737488355328) (ha:st.after≤s.size) (hr:RdAt w rb s st) (hlt:rb<w.heap.size) (hE:ErrOk w) (hk:st.tk.kind=k) :
  Calls Tryz.prog 56 #[.pointer (some ⟨rb,0,none⟩),.int .i64 k] w fun e w'=>e=.returned (tkV st.tk st.place)∧RdAt w' rb s (v6 s st)∧Kept rb w w':=by
 have HR:=v7 hr
 obtain ⟨c0,c1,c2,c3,c4,c5,c6,fz⟩:=hr
 have hne:(st.tk.kind != k)=false:=by rw [hk];simp
 have n0:¬w.heap.size=rb:=by omega
 have n1:¬w.heap.size+1=rb:=by omega
 clear hk
 go_enter Tryz.func56,Tryz.ntmps56
 go_wp2_with (go_at_call 54;refine (qc9 rb s st _ hs ha ((q9 HR).below (qb2 _ _ _) hlt) (by simp;omega) ((hE.alloc _).alloc _)).mono ?_;rintro e w1 ⟨rfl,hr1,hk1⟩;obtain ⟨hc,hf⟩:=qa5 hk1;have hr1:=v7 hr1;have q0:w1.cell? ⟨w.heap.size,0,none⟩=some (.int .i64 0):=(hc _ 0 (by simp;omega) n0).trans (by simp);have q1:w1.cell? ⟨w.heap.size,1,none⟩=some (.int .i64 0):=(hc _ 1 (by simp;omega) n0).trans (by simp);have q2:w1.cell? ⟨w.heap.size,2,none⟩=some (.int .i64 0):=(hc _ 2 (by simp;omega) n0).trans (by simp);have q3:w1.cell? ⟨w.heap.size,3,none⟩=some (.string ⟨#[]⟩):=(hc _ 3 (by simp;omega) n0).trans (by simp))
 refine bodyPost_ret (by simp [results,Tryz.results56,go_sem,q0,q1,q2,q3]<;>rfl) rfl ⟨rfl, ?_, ?_⟩
 ·exact ((((q9 hr1).setOther (by simpa using n0) _).setOther (by simpa using n0) _).setOther (by simpa using n0) _).setOther (by simpa using n0) _
 ·exact (((((((Kept.refl rb w).alloc _).alloc _).trans hk1).later (by simp) _).later (by simp) _).later (by simp) _).later (by simp) _
theorem qk6 (rb:Nat) (s:ByteArray) (st:St) (k:Int) (w:World) (hr:RdAt w rb s st) (hlt:rb<w.heap.size) (hk:¬st.tk.kind=k) :
  Calls Tryz.prog 56 #[.pointer (some ⟨rb,0,none⟩),.int .i64 k] w fun e w'=>e=qa1 2 st.place∧Kept rb w w':=by
 obtain ⟨c0,c1,c2,c3,c4,c5,c6,fz⟩:=hr
 have hne:(st.tk.kind != k)=true:=by simpa using hk
 clear hk
 go_enter Tryz.func56,Tryz.ntmps56
 go_wp2_with (go_at_call 103;refine (qy7 _ _ _).mono ?_;rintro e w1 ⟨rfl,rfl⟩;simp only [qa1])
 exact ⟨rfl,rfl,((Kept.refl rb w).alloc _).alloc _⟩
theorem RdAt.setOp {w:World} {rb:Nat} {s:ByteArray} {st:St} (h:RdAt w rb s st) (n:Nat) (m:Int) (hm:m=n):RdAt (w.setCell ⟨rb,6,none⟩ (.int .i64 m)) rb s { st with op:=n }:=by
 obtain ⟨c0,c1,c2,c3,c4,c5,c6,fz⟩:=h
 subst hm
 exact ⟨by simp [go_sem,c0],by simp [go_sem,c1],by simp [go_sem,c2],by simp [go_sem,c3],by simp [go_sem,c4],by simp [go_sem,c5],by simp [go_sem,c6],fun j=>by simp [go_sem,fz]⟩
theorem qa8 (w:World) (p:Addr) (u:Value):(w.setCell p u).heap.size=w.heap.size:=by simp
theorem qr2 (rb:Nat) (s:ByteArray) (st:St) (w:World) (hs:s.size≤140737488355328) (ha:st.after≤s.size) (hr:RdAt w rb s st) (hlt:rb<w.heap.size) (hE:ErrOk w) (hrb:3<rb) (hop:st.op<12) :
  Calls Tryz.prog 199 #[.pointer (some ⟨rb,0,none⟩)] w fun e w'=>e=.returned (tkV st.tk st.place)∧RdAt w' rb s { v6 s st with op:=st.op+1 }∧Kept rb w w':=by
 have HR:=v7 (hr.setOp (st.op+1) ((st.op:Int)+1) (by omega))
 have HK:=v7 ((Kept.refl rb w).setCell 6 (.int .i64 ((st.op:Int)+1)))
 have HE:=v7 (hE.kept (q9 HK) hrb)
 obtain ⟨c0,c1,c2,c3,c4,c5,c6,fz⟩:=hr
 have hne:((st.op:Int)==12)=false:=beq_eq_false_iff_ne.2 (by omega)
 have n0:¬w.heap.size=rb:=by omega
 have n1:¬w.heap.size+1=rb:=by omega
 clear hE
 go_enter Tryz.func199,Tryz.ntmps199
 go_wp2_with fail
 refine (qc9 rb s { st with op:=st.op+1 } _ hs ha ((q9 HR).below (qb2 _ _ _) (by rw [qa8];exact hlt)) (by simp;omega) (((q9 HE).alloc _).alloc _)).mono ?_
 rintro e w1 ⟨rfl,hr1,hk1⟩
 obtain ⟨hc,hf⟩:=qa5 hk1
 have hr1:=v7 hr1
 have q0:w1.cell? ⟨w.heap.size,0,none⟩=some (.int .i64 0):=(hc _ 0 (by simp;omega) n0).trans (by rw [World.cell?_alloc_past _ _ _ (by simp),World.cell?_alloc_at _ _ _ _ (by simp)];rfl)
 have q1:w1.cell? ⟨w.heap.size,1,none⟩=some (.int .i64 0):=(hc _ 1 (by simp;omega) n0).trans (by rw [World.cell?_alloc_past _ _ _ (by simp),World.cell?_alloc_at _ _ _ _ (by simp)];rfl)
 have q2:w1.cell? ⟨w.heap.size,2,none⟩=some (.int .i64 0):=(hc _ 2 (by simp;omega) n0).trans (by rw [World.cell?_alloc_past _ _ _ (by simp),World.cell?_alloc_at _ _ _ _ (by simp)];rfl)
 have q3:w1.cell? ⟨w.heap.size,3,none⟩=some (.string ⟨#[]⟩):=(hc _ 3 (by simp;omega) n0).trans (by rw [World.cell?_alloc_past _ _ _ (by simp),World.cell?_alloc_at _ _ _ _ (by simp)];rfl)
 go_wp2_with fail
 refine bodyPost_ret (by simp [results,Tryz.results199,go_sem,q0,q1,q2,q3]<;>rfl) rfl ⟨rfl, ?_, ?_⟩
 ·exact ((((q9 hr1).setOther (by simpa using n0) _).setOther (by simpa using n0) _).setOther (by simpa using n0) _).setOther (by simpa using n0) _
 ·exact ((((((((q9 HK).alloc _).alloc _).trans hk1).later (by simp) _).later (by simp) _).later (by simp) _).later (by simp) _)
theorem vg7 (rb:Nat) (s:ByteArray) (st:St) (w:World) (hr:RdAt w rb s st) (hlt:rb<w.heap.size) (hop:st.op=12) :
  Calls Tryz.prog 199 #[.pointer (some ⟨rb,0,none⟩)] w fun e w'=>e=qa1 3 st.place∧Kept rb w w':=by
 obtain ⟨c0,c1,c2,c3,c4,c5,c6,fz⟩:=hr
 have hne:((st.op:Int)==12)=true:=beq_iff_eq.2 (by omega)
 clear hop
 go_enter Tryz.func199,Tryz.ntmps199
 go_wp2_with fail
 exact ⟨rfl,rfl,((Kept.refl rb w).alloc _).alloc _⟩
theorem qu0 (rb:Nat) (s:ByteArray) (st:St) (k:Int) (w:World) (hs:s.size≤140737488355328) (ha:st.after≤s.size) (hr:RdAt w rb s st) (hlt:rb<w.heap.size) (hE:ErrOk w) (hk:st.tk.kind=k) :
  Calls Tryz.prog 267 #[.pointer (some ⟨rb,0,none⟩),.int .i64 k] w fun e w'=>e=.returned (.bool true)∧RdAt w' rb s (v6 s st)∧Kept rb w w':=by
 have HR:=v7 hr
 obtain ⟨c0,c1,c2,c3,c4,c5,c6,fz⟩:=hr
 have hne:(st.tk.kind != k)=false:=by rw [hk];simp
 clear hk
 go_enter Tryz.func267,Tryz.ntmps267
 go_wp2_with (go_at_call 54;refine (qc9 rb s st _ hs ha (q9 HR) hlt hE).mono ?_;rintro e w1 ⟨rfl,hr1,hk1⟩;have hr1:=v7 hr1)
 go_ret
 exact ⟨rfl,q9 hr1,hk1⟩
theorem vd2 (rb:Nat) (s:ByteArray) (st:St) (k:Int) (w:World) (hr:RdAt w rb s st) (hk:¬st.tk.kind=k) :
  Calls Tryz.prog 267 #[.pointer (some ⟨rb,0,none⟩),.int .i64 k] w fun e w'=>e=.returned (.bool false)∧w'=w:=by
 obtain ⟨c0,c1,c2,c3,c4,c5,c6,fz⟩:=hr
 have hne:(st.tk.kind != k)=true:=by simpa using hk
 clear hk
 go_enter Tryz.func267,Tryz.ntmps267
 go_wp2_with fail
 go_ret
 exact ⟨rfl,rfl⟩
end
section
def KsAt (w:World) (b:Nat) (ks:List Int):Prop:=∀(j:Nat) (k:Int),ks[j]?=some k→w.cell? ⟨b,j,none⟩=some (.int .i64 k)
def idxK (ks:List Int) (x:Int) (j:Nat):Int:=match ks with
 | []=>-1
 | k::t=>if x==k then j else idxK t x (j+1)
theorem idxK_drop {ks:List Int} {x k:Int} {j:Nat} (h:ks[j]?=some k):idxK (ks.drop j) x j=if x==k then (j:Int) else idxK (ks.drop (j+1)) x (j+1):=by
 obtain ⟨hj,he⟩:=List.getElem?_eq_some_iff.1 h
 rw [List.drop_eq_getElem_cons hj,he];rfl
theorem idxK_ge (ks:List Int) (x:Int):∀j:Nat,decide (0≤idxK ks x j)=ks.contains x:=by
 induction ks with
 | nil=>intro j;rfl
 | cons k t ih=>
  intro j
  rw [show idxK (k::t) x j=if x==k then (j:Int) else idxK t x (j+1) from rfl,List.contains_cons]
  by_cases h:(x==k)=true
  ·rw [if_pos h,h,Bool.true_or];exact decide_eq_true (by omega)
  ·rw [if_neg h,Bool.eq_false_iff.2 h,Bool.false_or];exact ih _
theorem jd3 (b cap:Nat) (ks:List Int) (x:Int) (w:World) (hl:ks.length≤8) (hk:KsAt w b ks) :
  Calls Tryz.prog 196 #[.slice (some ⟨b,0,none⟩) ks.length cap,.int .i64 x] w fun e w'=>e=.returned (.int .i64 (idxK ks x 0))∧w'=w:=by
 obtain ⟨R,hR⟩:∃r,idxK ks x 0=r:=⟨_,rfl⟩
 rw [hR]
 have HR:=v7 hR
 clear hR
 go_enter Tryz.func196,Tryz.ntmps196
 go_wp2_with fail
 go_loop [5,8] (fun _ i=>∃j:Nat,j≤ks.length∧i=.int .i64 j∧Hid (R=idxK (ks.drop j) x j)) (fun _ i=>ks.length - (intOf i).toNat)
 case atStart=>exact ⟨0,Nat.zero_le _,rfl,v7 (by rw [List.drop_zero,q9 HR])⟩
 case round=>
  obtain ⟨j,hj,rfl,hh⟩:=hrel
  by_cases hlt:j<ks.length
  ·obtain ⟨k,hp⟩:∃k,ks[j]?=some k:=⟨_,List.getElem?_eq_getElem hlt⟩
   have hc:=hk j k hp
   have hd:=idxK_drop (x:=x) hp
   cases hx:(x==k) with
   | true=>
    rw [hx,if_pos rfl] at hd
    have HT:Hid (R=j):=v7 (by rw [q9 hh,hd])
    clear hh hd hp
    go_wp2_with fail
    go_ret
    exact ⟨qf7 (by rw [q9 HT]),rfl⟩
   | false=>
    rw [hx,if_neg (by simp)] at hd
    have HT:Hid (R=idxK (ks.drop (j+1)) x (j+1)):=v7 (by rw [q9 hh,hd])
    clear hh hd hp
    go_wp2_with fail
    go_round
    case rel=>exact ⟨j+1,by omega,by go_num,HT⟩
    case measure=>simp [intOf];omega
  ·have HT:Hid (R=-1):=v7 (by rw [q9 hh,List.drop_of_length_le (by omega)];rfl)
   clear hh
   go_wp2_with fail
   go_ret
   exact ⟨qf7 (by rw [q9 HT]),rfl⟩
theorem qm9 (b cap:Nat) (ks:List Int) (x:Int) (w:World) (hl:ks.length≤8) (hk:KsAt w b ks) :
  Calls Tryz.prog 145 #[.slice (some ⟨b,0,none⟩) ks.length cap,.int .i64 x] w fun e w'=>e=.returned (.bool (ks.contains x))∧w'=w:=by
 have HC:=v7 (idxK_ge ks x 0)
 go_enter Tryz.func145,Tryz.ntmps145
 go_wp2_with (go_at_call 196;refine (jd3 _ _ _ _ _ hl hk).mono ?_;rintro e w' ⟨rfl,rfl⟩;generalize idxK ks x 0=r at HC)
 all_goals (go_ret;exact ⟨qc0 (by rw [←q9 HC]),rfl⟩)
def qu8 (k:Int):Int:=
 if k==5 then 6 else if k==6 then 7 else if k==16 then 8 else if k==17 then 9 else if k==18 then 10 else if k==19 then 11
 else if k==20 then 12 else if k==21 then 13 else if k==22 then 16 else if k==23 then 17 else if k==24 then 18 else 19
theorem qf3 (k:Int) (w:World) :
  Calls Tryz.prog 197 #[.int .i64 k] w fun e w'=>e=.returned (.int .i64 (qu8 k))∧w'=w:=by
 go_enter Tryz.func197,Tryz.ntmps197
 go_wp2_with fail
 all_goals (go_ret;refine ⟨qf7 ?_,rfl⟩;go_light;simp only [qu8, *,if_true,Bool.false_eq_true,if_false])
end
section
structure Pay where
 op:Int
 place:Int
 num:Int
 str:List UInt8
 esc:List UInt8
 texts:List (List UInt8)
inductive Ast where
 | leaf (p:Pay)
 | un (p:Pay) (x:Ast)
 | bin (p:Pay) (x y:Ast)
 | tri (p:Pay) (x y z:Ast)
def TextsAt (lo:Nat) (w:World) (v:Value) (ts:List (List UInt8)):Prop:=
 (ts=[]∧v=.slice none 0 0)∨∃g cap,v=.slice (some ⟨g,0,none⟩) ts.length cap∧lo<g∧g<w.heap.size∧∀(j:Nat) (t:List UInt8),ts[j]?=some t→w.cell? ⟨g,j,none⟩=some (.string (BS t))
structure NodeAt (lo:Nat) (w:World) (b:Nat) (p:Pay) (sides:Value):Prop where
 above:lo<b
 within:b<w.heap.size
 c0:w.cell? ⟨b,0,none⟩=some (.int .i64 p.op)
 c1:w.cell? ⟨b,1,none⟩=some (.int .i64 p.place)
 c2:w.cell? ⟨b,2,none⟩=some sides
 c3:w.cell? ⟨b,3,none⟩=some (.int .i64 p.num)
 c4:w.cell? ⟨b,4,none⟩=some (.string (BS p.str))
 c5:w.cell? ⟨b,5,none⟩=some (.string (BS p.esc))
 c6:∃tv,w.cell? ⟨b,6,none⟩=some tv∧TextsAt lo w tv p.texts
def IsNode (lo:Nat) (w:World):Value→Ast→Prop
 | v,.leaf p=>∃b,v=.pointer (some ⟨b,0,none⟩)∧NodeAt lo w b p (.slice none 0 0)
 | v,.un p x=>∃b g v1,v=.pointer (some ⟨b,0,none⟩)∧NodeAt lo w b p (.slice (some ⟨g,0,none⟩) 1 1)∧lo<g∧g<w.heap.size∧w.cell? ⟨g,0,none⟩=some v1∧IsNode lo w v1 x
 | v,.bin p x y=>∃b g v1 v2,v=.pointer (some ⟨b,0,none⟩)∧NodeAt lo w b p (.slice (some ⟨g,0,none⟩) 2 2)∧lo<g∧g<w.heap.size∧w.cell? ⟨g,0,none⟩=some v1∧w.cell? ⟨g,1,none⟩=some v2∧IsNode lo w v1 x∧IsNode lo w v2 y
 | v,.tri p x y z=>∃b g v1 v2 v3,v=.pointer (some ⟨b,0,none⟩)∧NodeAt lo w b p (.slice (some ⟨g,0,none⟩) 3 3)∧lo<g∧g<w.heap.size∧w.cell? ⟨g,0,none⟩=some v1∧w.cell? ⟨g,1,none⟩=some v2∧w.cell? ⟨g,2,none⟩=some v3∧IsNode lo w v1 x∧IsNode lo w v2 y∧IsNode lo w v3 z
theorem TextsAt.kept {lo:Nat} {w w':World} (hk:Kept lo w w') {v:Value} {ts:List (List UInt8)} (h:TextsAt lo w v ts):TextsAt lo w' v ts:=by
 rcases h with h|⟨g,cap,hv,hg,hg2,hc⟩
 ·exact .inl h
 ·exact .inr ⟨g,cap,hv,hg,Nat.lt_of_lt_of_le hg2 hk.size,fun j t ht=>((qa5 hk).1 g j hg2 (by omega)).trans (hc j t ht)⟩
theorem NodeAt.kept {lo:Nat} {w w':World} (hk:Kept lo w w') {b:Nat} {p:Pay} {sides:Value} (h:NodeAt lo w b p sides):NodeAt lo w' b p sides:=by
 obtain ⟨h1,h2,c0,c1,c2,c3,c4,c5,tv,c6,ht⟩:=h
 have hc:=fun j=>(qa5 hk).1 b j h2 (by omega)
 exact ⟨h1,Nat.lt_of_lt_of_le h2 hk.size,(hc 0).trans c0,(hc 1).trans c1,(hc 2).trans c2,(hc 3).trans c3,(hc 4).trans c4,(hc 5).trans c5,tv,(hc 6).trans c6,ht.kept hk⟩
theorem IsNode.kept {lo:Nat} {w w':World} (hk:Kept lo w w'):∀{t:Ast} {v:Value},IsNode lo w v t→IsNode lo w' v t:=by
 have hc:=fun g j (h1:lo<g) (h2:g<w.heap.size)=>(qa5 hk).1 g j h2 (by omega)
 intro t
 induction t with
 | leaf p=>rintro v ⟨b,rfl,h⟩;exact ⟨b,rfl,h.kept hk⟩
 | un p x ih=>
  rintro v ⟨b,g,v1,rfl,h,h1,h2,e1,n1⟩
  exact ⟨b,g,v1,rfl,h.kept hk,h1,Nat.lt_of_lt_of_le h2 hk.size,(hc g 0 h1 h2).trans e1,ih n1⟩
 | bin p x y ihx ihy=>
  rintro v ⟨b,g,v1,v2,rfl,h,h1,h2,e1,e2,n1,n2⟩
  exact ⟨b,g,v1,v2,rfl,h.kept hk,h1,Nat.lt_of_lt_of_le h2 hk.size,(hc g 0 h1 h2).trans e1,(hc g 1 h1 h2).trans e2,ihx n1,ihy n2⟩
 | tri p x y z ihx ihy ihz=>
  rintro v ⟨b,g,v1,v2,v3,rfl,h,h1,h2,e1,e2,e3,n1,n2,n3⟩
  exact ⟨b,g,v1,v2,v3,rfl,h.kept hk,h1,Nat.lt_of_lt_of_le h2 hk.size,(hc g 0 h1 h2).trans e1,(hc g 1 h1 h2).trans e2,(hc g 2 h1 h2).trans e3,ihx n1,ihy n2,ihz n3⟩
inductive Res where
 | ok (t:Ast) (st:St)
 | err (en pl:Int)
structure Fine (s:ByteArray) (st:St):Prop where
 place:st.place≤s.size
 after:st.after≤s.size
 long:st.tk.kind≠0→st.place<st.after
def Gives (rb:Nat) (s:ByteArray) (w:World) (op lo:Nat) (r:Res) (e:Ending) (w':World):Prop:=
 Kept rb w w'∧match r with
 | .ok t st=>∃v,e=.returned v∧IsNode rb w' v t∧RdAt w' rb s st∧Fine s st∧st.op=op∧lo≤st.place
 | .err en pl=>e=qa1 en pl
structure Ready (rb:Nat) (s:ByteArray) (w:World) (st:St):Prop where
 at':RdAt w rb s st
 lt:rb<w.heap.size
 err:ErrOk w
 glob:3<rb
 fine:Fine s st
 size:s.size≤140737488355328
def qf6 (K:Nat) (rb:Nat) (s:ByteArray) (op:Nat) (f:St→Res):Prop:=
 ∀(w:World) (st:St),Ready rb s w st→st.op=op→Calls Tryz.prog K #[.pointer (some ⟨rb,0,none⟩)] w (Gives rb s w op st.place (f st))
theorem Ready.kept {rb:Nat} {s:ByteArray} {w w':World} {st st':St} (h:Ready rb s w st) (hk:Kept rb w w') (hr:RdAt w' rb s st') (ha:Fine s st'):Ready rb s w' st':=
 ⟨hr,Nat.lt_of_lt_of_le h.lt hk.size,h.err.kept hk h.glob,h.glob,ha,h.size⟩
theorem vx8 {p:UInt8→Bool} {c:UInt8} {t:List UInt8} (h:p c=true):0<qa4 p (c::t):=by simp [qa4,h]
theorem ve6 (l:List UInt8) (h:0<l.length):0<qu2 l:=by
 cases l with
 | nil=>simp at h
 | cons c t=>
  simp only [qu2]
  split
  ·rename_i hb;simp [x5,hb]
  ·split
   ·rename_i hd;exact vx8 hd
   ·split
    ·unfold qt1;split
     ·omega
     ·exact h
    ·unfold qs7;split
     ·omega
     ·omega
     ·split<;>omega
theorem x8 (s:ByteArray) (st:St) (h:st.after≤s.size):Fine s (v6 s st):=by
 have h1:=vp7 s.data.toList st.after (by rw [j4];exact h)
 have h2:=nextTo_le s.data.toList st.after
 rw [j4] at h1 h2
 refine ⟨h1,h2,fun hk=>?_⟩
 show qe8 s.data.toList st.after<qh8 s.data.toList st.after
 unfold qh8
 by_cases hl:qe8 s.data.toList st.after<s.data.toList.length
 ·rw [if_pos hl]
  have:=ve6 (s.data.toList.drop (qe8 s.data.toList st.after)) (by rw [List.length_drop];omega)
  omega
 ·exfalso;apply hk
  show (qd3 s.data.toList st.after).kind=0
  unfold qd3;rw [if_neg hl];rfl
theorem qf2 (s:ByteArray) (st:St):st.after≤(v6 s st).place:=by
 show st.after≤qe8 s.data.toList st.after
 unfold qe8;omega
end
end Go.Proofs.YtfkcaldjphakpaaGreatDoor
