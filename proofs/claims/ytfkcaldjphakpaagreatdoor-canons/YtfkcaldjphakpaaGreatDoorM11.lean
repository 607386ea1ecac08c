/- The contracts of (*reader).refuse, take, skip, enter. The contracts of slices.Contains over kinds, of twoSided, and of denial; terms in memory. The document's answer: words. -/
import Derived.Test.YtfkcaldjphakpaaGreatDoorM02
import Derived.Test.YtfkcaldjphakpaaGreatDoorM10
set_option maxHeartbeats 1000000
namespace Go.Proofs.YtfkcaldjphakpaaGreatDoor
open Go.RowKit
section
def qb4 (en pl:Int):Ending:=.panicked [{ v:=.iface 88 (.agg #[.int .i64 en,.int .i64 pl]),recovered:=false }]
theorem vb5 (r:Value) (pl:Int) (w:World) :
  Calls Tryz.prog 103 #[r,.int .i64 pl] w fun e w'=>e=qb4 2 pl∧w'=w:=by
 go_enter Tryz.func103,Tryz.ntmps103
 go_wp2_with fail
 exact ⟨rfl,rfl,rfl⟩
theorem RdAt.allocd {w:World} {rb:Nat} {s:ByteArray} {st:St} (h:RdAt w rb s st) (o:Obj) (hlt:rb<w.heap.size):RdAt (w.alloc o) rb s st:=
 h.below ((Below.refl _ _).alloc (Nat.le_refl _) o) hlt
theorem qc2 {rb:Nat} {W w1:World} (hk:Kept rb W w1):(∀b o,b<W.heap.size→¬b=rb→w1.cell? ⟨b,o,none⟩=W.cell? ⟨b,o,none⟩)∧(∀b o,b<W.heap.size→¬b=rb→w1.frozen? ⟨b,o,none⟩=W.frozen? ⟨b,o,none⟩):=
 ⟨fun b o h hn=>World.cell?_of_block (w:=W) (w':=w1) (a:=⟨b,o,none⟩) (hk.block b h hn),fun b o h hn=>World.frozen?_of_block (w:=W) (w':=w1) (a:=⟨b,o,none⟩) (hk.block b h hn)⟩
theorem Kept.later {rb:Nat} {a w:World} (h:Kept rb a w) {p:Addr} (hp:a.heap.size≤p.block) (u:Value):Kept rb a (w.setCell p u):=by
 have hb:=(Below.refl 0 w).setCell (p:=p) (Nat.zero_le _) u
 refine ⟨hb.os.trans h.os,hb.tape.trans h.tape,hb.output.trans h.output,Nat.le_trans h.size hb.size,fun k hk hn=>?_⟩
 rw [Below.heap_setCell w p u k (by omega)];exact h.block k hk hn
theorem RdAt.setOther {w:World} {rb:Nat} {s:ByteArray} {st:St} (h:RdAt w rb s st) {p:Addr} (hp:¬p.block=rb) (u:Value):RdAt (w.setCell p u) rb s st:=by
 have hb:=Below.heap_setCell w p u rb (by omega)
 have hc:∀j,(w.setCell p u).cell? ⟨rb,j,none⟩=w.cell? ⟨rb,j,none⟩:=fun j=>World.cell?_of_block (w:=w) (w':=w.setCell p u) (a:=⟨rb,j,none⟩) hb
 have hf:∀j,(w.setCell p u).frozen? ⟨rb,j,none⟩=w.frozen? ⟨rb,j,none⟩:=fun j=>World.frozen?_of_block (w:=w) (w':=w.setCell p u) (a:=⟨rb,j,none⟩) hb
 exact ⟨(hc 0).trans h.c0,(hc 1).trans h.c1,(hc 2).trans h.c2,(hc 3).trans h.c3,(hc 4).trans h.c4,(hc 5).trans h.c5,(hc 6).trans h.c6,fun j=>(hf j).trans (h.fz j)⟩
theorem qd1 (rb:Nat) (s:ByteArray) (st:St) (k:Int) (w:World) (hs:s.size≤140737488355328) (ha:st.after≤s.size) (hr:RdAt w rb s st) (hlt:rb<w.heap.size) (hE:ErrOk w) (hk:st.tk.kind=k) :
  Calls Tryz.prog 56 #[.pointer (some ⟨rb,0,none⟩),.int .i64 k] w fun e w'=>e=.returned (tkV st.tk st.place)∧RdAt w' rb s (j3 s st)∧Kept rb w w':=by
 have HR:=j4 hr
 obtain ⟨c0,c1,c2,c3,c4,c5,c6,fz⟩:=hr
 have hne:(st.tk.kind != k)=false:=by rw [hk];simp
 have n0:¬w.heap.size=rb:=by omega
 have n1:¬w.heap.size+1=rb:=by omega
 clear hk
 go_enter Tryz.func56,Tryz.ntmps56
 go_wp2_with (go_at_call 54;refine (qd6 rb s st _ hs ha ((q9 HR).below (vi6 _ _ _) hlt) (by simp;omega) ((hE.alloc _).alloc _)).mono ?_;rintro e w1 ⟨rfl,hr1,hk1⟩;obtain ⟨hc,hf⟩:=qc2 hk1;have hr1:=j4 hr1;have q0:w1.cell? ⟨w.heap.size,0,none⟩=some (.int .i64 0):=(hc _ 0 (by simp;omega) n0).trans (by simp);have q1:w1.cell? ⟨w.heap.size,1,none⟩=some (.int .i64 0):=(hc _ 1 (by simp;omega) n0).trans (by simp);have q2:w1.cell? ⟨w.heap.size,2,none⟩=some (.int .i64 0):=(hc _ 2 (by simp;omega) n0).trans (by simp);have q3:w1.cell? ⟨w.heap.size,3,none⟩=some (.string ⟨#[]⟩):=(hc _ 3 (by simp;omega) n0).trans (by simp))
 refine bodyPost_ret (by simp [results,Tryz.results56,go_sem,q0,q1,q2,q3]<;>rfl) rfl ⟨rfl, ?_, ?_⟩
 ·exact ((((q9 hr1).setOther (by simpa using n0) _).setOther (by simpa using n0) _).setOther (by simpa using n0) _).setOther (by simpa using n0) _
 ·exact (((((((Kept.refl rb w).alloc _).alloc _).trans hk1).later (by simp) _).later (by simp) _).later (by simp) _).later (by simp) _
theorem qn4 (rb:Nat) (s:ByteArray) (st:St) (k:Int) (w:World) (hr:RdAt w rb s st) (hlt:rb<w.heap.size) (hk:¬st.tk.kind=k) :
  Calls Tryz.prog 56 #[.pointer (some ⟨rb,0,none⟩),.int .i64 k] w fun e w'=>e=qb4 2 st.place∧Kept rb w w':=by
 obtain ⟨c0,c1,c2,c3,c4,c5,c6,fz⟩:=hr
 have hne:(st.tk.kind != k)=true:=by simpa using hk
 clear hk
 go_enter Tryz.func56,Tryz.ntmps56
 go_wp2_with (go_at_call 103;refine (vb5 _ _ _).mono ?_;rintro e w1 ⟨rfl,rfl⟩;simp only [qb4])
 exact ⟨rfl,rfl,((Kept.refl rb w).alloc _).alloc _⟩
theorem RdAt.setOp {w:World} {rb:Nat} {s:ByteArray} {st:St} (h:RdAt w rb s st) (n:Nat) (m:Int) (hm:m=n):RdAt (w.setCell ⟨rb,6,none⟩ (.int .i64 m)) rb s { st with op:=n }:=by
 obtain ⟨c0,c1,c2,c3,c4,c5,c6,fz⟩:=h
 subst hm
 exact ⟨by simp [go_sem,c0],by simp [go_sem,c1],by simp [go_sem,c2],by simp [go_sem,c3],by simp [go_sem,c4],by simp [go_sem,c5],by simp [go_sem,c6],fun j=>by simp [go_sem,fz]⟩
theorem size_setCell (w:World) (p:Addr) (u:Value):(w.setCell p u).heap.size=w.heap.size:=by simp
theorem qs4 (rb:Nat) (s:ByteArray) (st:St) (w:World) (hs:s.size≤140737488355328) (ha:st.after≤s.size) (hr:RdAt w rb s st) (hlt:rb<w.heap.size) (hE:ErrOk w) (hrb:3<rb) (hop:st.op<12) :
  Calls Tryz.prog 199 #[.pointer (some ⟨rb,0,none⟩)] w fun e w'=>e=.returned (tkV st.tk st.place)∧RdAt w' rb s { j3 s st with op:=st.op+1 }∧Kept rb w w':=by
 have HR:=j4 (hr.setOp (st.op+1) ((st.op:Int)+1) (by omega))
 have HK:=j4 ((Kept.refl rb w).setCell 6 (.int .i64 ((st.op:Int)+1)))
 have HE:=j4 (hE.kept (q9 HK) hrb)
 obtain ⟨c0,c1,c2,c3,c4,c5,c6,fz⟩:=hr
 have hne:((st.op:Int)==12)=false:=beq_eq_false_iff_ne.2 (by omega)
 have n0:¬w.heap.size=rb:=by omega
 have n1:¬w.heap.size+1=rb:=by omega
 clear hE
 go_enter Tryz.func199,Tryz.ntmps199
 go_wp2_with fail
 refine (qd6 rb s { st with op:=st.op+1 } _ hs ha ((q9 HR).below (vi6 _ _ _) (by rw [size_setCell];exact hlt)) (by simp;omega) (((q9 HE).alloc _).alloc _)).mono ?_
 rintro e w1 ⟨rfl,hr1,hk1⟩
 obtain ⟨hc,hf⟩:=qc2 hk1
 have hr1:=j4 hr1
 have q0:w1.cell? ⟨w.heap.size,0,none⟩=some (.int .i64 0):=(hc _ 0 (by simp;omega) n0).trans (by rw [World.cell?_alloc_past _ _ _ (by simp),World.cell?_alloc_at _ _ _ _ (by simp)];rfl)
 have q1:w1.cell? ⟨w.heap.size,1,none⟩=some (.int .i64 0):=(hc _ 1 (by simp;omega) n0).trans (by rw [World.cell?_alloc_past _ _ _ (by simp),World.cell?_alloc_at _ _ _ _ (by simp)];rfl)
 have q2:w1.cell? ⟨w.heap.size,2,none⟩=some (.int .i64 0):=(hc _ 2 (by simp;omega) n0).trans (by rw [World.cell?_alloc_past _ _ _ (by simp),World.cell?_alloc_at _ _ _ _ (by simp)];rfl)
 have q3:w1.cell? ⟨w.heap.size,3,none⟩=some (.string ⟨#[]⟩):=(hc _ 3 (by simp;omega) n0).trans (by rw [World.cell?_alloc_past _ _ _ (by simp),World.cell?_alloc_at _ _ _ _ (by simp)];rfl)
 go_wp2_with fail
 refine bodyPost_ret (by simp [results,Tryz.results199,go_sem,q0,q1,q2,q3]<;>rfl) rfl ⟨rfl, ?_, ?_⟩
 ·exact ((((q9 hr1).setOther (by simpa using n0) _).setOther (by simpa using n0) _).setOther (by simpa using n0) _).setOther (by simpa using n0) _
 ·exact ((((((((q9 HK).alloc _).alloc _).trans hk1).later (by simp) _).later (by simp) _).later (by simp) _).later (by simp) _)
theorem vm1 (rb:Nat) (s:ByteArray) (st:St) (w:World) (hr:RdAt w rb s st) (hlt:rb<w.heap.size) (hop:st.op=12) :
  Calls Tryz.prog 199 #[.pointer (some ⟨rb,0,none⟩)] w fun e w'=>e=qb4 3 st.place∧Kept rb w w':=by
 obtain ⟨c0,c1,c2,c3,c4,c5,c6,fz⟩:=hr
 have hne:((st.op:Int)==12)=true:=beq_iff_eq.2 (by omega)
 clear hop
 go_enter Tryz.func199,Tryz.ntmps199
 go_wp2_with fail
 exact ⟨rfl,rfl,((Kept.refl rb w).alloc _).alloc _⟩
theorem qw0 (rb:Nat) (s:ByteArray) (st:St) (k:Int) (w:World) (hs:s.size≤140737488355328) (ha:st.after≤s.size) (hr:RdAt w rb s st) (hlt:rb<w.heap.size) (hE:ErrOk w) (hk:st.tk.kind=k) :
  Calls Tryz.prog 267 #[.pointer (some ⟨rb,0,none⟩),.int .i64 k] w fun e w'=>e=.returned (.bool true)∧RdAt w' rb s (j3 s st)∧Kept rb w w':=by
 have HR:=j4 hr
 obtain ⟨c0,c1,c2,c3,c4,c5,c6,fz⟩:=hr
 have hne:(st.tk.kind != k)=false:=by rw [hk];simp
 clear hk
 go_enter Tryz.func267,Tryz.ntmps267
 go_wp2_with (go_at_call 54;refine (qd6 rb s st _ hs ha (q9 HR) hlt hE).mono ?_;rintro e w1 ⟨rfl,hr1,hk1⟩;have hr1:=j4 hr1)
 go_ret
 exact ⟨rfl,q9 hr1,hk1⟩
theorem vh5 (rb:Nat) (s:ByteArray) (st:St) (k:Int) (w:World) (hr:RdAt w rb s st) (hk:¬st.tk.kind=k) :
  Calls Tryz.prog 267 #[.pointer (some ⟨rb,0,none⟩),.int .i64 k] w fun e w'=>e=.returned (.bool false)∧w'=w:=by
 obtain ⟨c0,c1,c2,c3,c4,c5,c6,fz⟩:=hr
 have hne:(st.tk.kind != k)=true:=by simpa using hk
 clear hk
 go_enter Tryz.func267,Tryz.ntmps267
 go_wp2_with fail
 go_ret
 exact ⟨rfl,rfl⟩
end
section
def KsAt (w:World) (b:Nat) (ks:List Int):Prop:=∀(j:Nat) (k:Int),ks[j]?=some k→w.cell? ⟨b,j,none⟩=some (.int .i64 k)
def idxK (ks:List Int) (x:Int) (j:Nat):Int:=match ks with
 | []=>-1
 | k::t=>if x==k then j else idxK t x (j+1)
theorem idxK_drop {ks:List Int} {x k:Int} {j:Nat} (h:ks[j]?=some k):idxK (ks.drop j) x j=if x==k then (j:Int) else idxK (ks.drop (j+1)) x (j+1):=by
 obtain ⟨hj,he⟩:=List.getElem?_eq_some_iff.1 h
 rw [List.drop_eq_getElem_cons hj,he];rfl
theorem idxK_ge (ks:List Int) (x:Int):∀j:Nat,decide (0≤idxK ks x j)=ks.contains x:=by
 induction ks with
 | nil=>intro j;rfl
 | cons k t ih=>
  intro j
  rw [show idxK (k::t) x j=if x==k then (j:Int) else idxK t x (j+1) from rfl,List.contains_cons]
  by_cases h:(x==k)=true
  ·rw [if_pos h,h,Bool.true_or];exact decide_eq_true (by omega)
  ·rw [if_neg h,Bool.eq_false_iff.2 h,Bool.false_or];exact ih _
theorem jh8 (b cap:Nat) (ks:List Int) (x:Int) (w:World) (hl:ks.length≤8) (hk:KsAt w b ks) :
  Calls Tryz.prog 196 #[.slice (some ⟨b,0,none⟩) ks.length cap,.int .i64 x] w fun e w'=>e=.returned (.int .i64 (idxK ks x 0))∧w'=w:=by
 obtain ⟨R,hR⟩:∃r,idxK ks x 0=r:=⟨_,rfl⟩
 rw [hR]
 have HR:=j4 hR
 clear hR
 go_enter Tryz.func196,Tryz.ntmps196
 go_wp2_with fail
 go_loop [5,8] (fun _ i=>∃j:Nat,j≤ks.length∧i=.int .i64 j∧Hid (R=idxK (ks.drop j) x j)) (fun _ i=>ks.length - (intOf i).toNat)
 case atStart=>exact ⟨0,Nat.zero_le _,rfl,j4 (by rw [List.drop_zero,q9 HR])⟩
 case round=>
  obtain ⟨j,hj,rfl,hh⟩:=hrel
  by_cases hlt:j<ks.length
  ·obtain ⟨k,hp⟩:∃k,ks[j]?=some k:=⟨_,List.getElem?_eq_getElem hlt⟩
   have hc:=hk j k hp
   have hd:=idxK_drop (x:=x) hp
   cases hx:(x==k) with
   | true=>
    rw [hx,if_pos rfl] at hd
    have HT:Hid (R=j):=j4 (by rw [q9 hh,hd])
    clear hh hd hp
    go_wp2_with fail
    go_ret
    exact ⟨qg5 (by rw [q9 HT]),rfl⟩
   | false=>
    rw [hx,if_neg (by simp)] at hd
    have HT:Hid (R=idxK (ks.drop (j+1)) x (j+1)):=j4 (by rw [q9 hh,hd])
    clear hh hd hp
    go_wp2_with fail
    go_round
    case rel=>exact ⟨j+1,by omega,by go_num,HT⟩
    case measure=>simp [intOf];omega
  ·have HT:Hid (R=-1):=j4 (by rw [q9 hh,List.drop_of_length_le (by omega)];rfl)
   clear hh
   go_wp2_with fail
   go_ret
   exact ⟨qg5 (by rw [q9 HT]),rfl⟩
theorem qp6 (b cap:Nat) (ks:List Int) (x:Int) (w:World) (hl:ks.length≤8) (hk:KsAt w b ks) :
  Calls Tryz.prog 145 #[.slice (some ⟨b,0,none⟩) ks.length cap,.int .i64 x] w fun e w'=>e=.returned (.bool (ks.contains x))∧w'=w:=by
 have HC:=j4 (idxK_ge ks x 0)
 go_enter Tryz.func145,Tryz.ntmps145
 go_wp2_with (go_at_call 196;refine (jh8 _ _ _ _ _ hl hk).mono ?_;rintro e w' ⟨rfl,rfl⟩;generalize idxK ks x 0=r at HC)
 all_goals (go_ret;exact ⟨qn7 (by rw [←q9 HC]),rfl⟩)
def qw9 (k:Int):Int:=
 if k==5 then 6 else if k==6 then 7 else if k==16 then 8 else if k==17 then 9 else if k==18 then 10 else if k==19 then 11
 else if k==20 then 12 else if k==21 then 13 else if k==22 then 16 else if k==23 then 17 else if k==24 then 18 else 19
theorem qf9 (k:Int) (w:World) :
  Calls Tryz.prog 197 #[.int .i64 k] w fun e w'=>e=.returned (.int .i64 (qw9 k))∧w'=w:=by
 go_enter Tryz.func197,Tryz.ntmps197
 go_wp2_with fail
 all_goals (go_ret;refine ⟨qg5 ?_,rfl⟩;go_light;simp only [qw9, *,if_true,Bool.false_eq_true,if_false])
end
section
theorem upper_low {c:UInt8} (h:97≤c.toNat∧c.toNat≤122):((Lib.upperB c).toNat:Int)=(c.toNat:Int) - 32:=by
 have e:Lib.isLowerB c=true:=by
  unfold Lib.isLowerB
  simp only [Bool.and_eq_true,decide_eq_true_eq,UInt8.le_iff_toNat_le]
  exact h
 unfold Lib.upperB
 rw [if_pos e,UInt8.toNat_sub_of_le _ _ (by rw [UInt8.le_iff_toNat_le];show 32≤c.toNat;omega)]
 show ((c.toNat - 32:Nat):Int)=_
 omega
theorem upper_not {c:UInt8} (h:¬(97≤c.toNat∧c.toNat≤122)):Lib.upperB c=c:=by
 have e:¬Lib.isLowerB c=true:=by
  unfold Lib.isLowerB
  simp only [Bool.and_eq_true,decide_eq_true_eq,UInt8.le_iff_toNat_le]
  exact h
 unfold Lib.upperB
 rw [if_neg e]
theorem jn7 {s:ByteArray} {k:Nat} (h:k<s.size):Lib.toUpperA (s.data.toList.take (k+1))=Lib.toUpperA (s.data.toList.take k)++[Lib.upperB s[k]]:=by
 unfold Lib.toUpperA
 rw [List.take_add_one,List.map_append,List.getElem?_eq_getElem (by rw [qa5];exact h),qb3 s k h]
 rfl
theorem rcap_any (s:ByteArray) (hs:s.size≤1000) (w:World):Calls Tryz.prog 231 #[.string s] w fun e w'=>e=.returned (.string (BS (Lib.toUpperA s.data.toList)))∧Below w.heap.size w w':=by
 have HB:=j4 (Below.refl w.heap.size w)
 go_enter Tryz.func231,Tryz.ntmps231
 go_wp2_with fail
 go_loopw [3,4] (fun o i wr=>∃k:Nat,k≤s.size∧i=.int .i64 k∧o=.string (BS (Lib.toUpperA (s.data.toList.take k)))∧Hid (Below w.heap.size w wr)) (fun _ i _=>s.size - (intOf i).toNat)
 case atStart=>exact ⟨0,Nat.zero_le _,rfl,rfl,HB⟩
 case round=>
  obtain ⟨k,hk,rfl,rfl,B⟩:=hrel
  by_cases hlt:k<s.size
  ·have hup:=jn7 hlt
   have hadd:∀w:World,(Op.stringOp .add (BS (Lib.toUpperA (s.data.toList.take k))) (BS [Lib.upperB s[k]])).run Tryz.prog w=.ok (.string (BS (Lib.toUpperA (s.data.toList.take (k+1))))) w:=fun w=>by
    rw [hup,←qk1]
    exact run_string_add_sum (P:=Tryz.prog) (w:=w) _ _ (by rw [qc4,qc4];simp [Lib.toUpperA];omega)
   generalize BS (Lib.toUpperA (s.data.toList.take k))=O1 at hadd ⊢
   generalize hO2:BS (Lib.toUpperA (s.data.toList.take (k+1)))=O2 at hadd
   have HO2:=j4 hO2
   have hcv:=jd5 (Lib.upperB s[k])
   have hc0:(0:Int)≤(s[k].toNat:Int):=by omega
   have hc1:(s[k].toNat:Int)<256:=by have:=s[k].toNat_lt;omega
   clear hup hO2
   by_cases hl:97≤s[k].toNat∧s[k].toNat≤122
   ·rw [upper_low hl] at hcv
    have h1:(97:Int)≤(s[k].toNat:Int):=by omega
    have h2:(s[k].toNat:Int)≤122:=by omega
    go_wp2_with fail
    exact ⟨⟨k+1,by omega,rfl,by rw [q9 HO2],j4 (j6 (q9 B) ((Below.refl _ _).alloc (Nat.le_refl _) _))⟩,by simp [intOf];omega⟩
   ·rw [upper_not hl] at hcv hadd
    by_cases h1:97≤s[k].toNat
    ·have h1':(97:Int)≤(s[k].toNat:Int):=by omega
     have h2':¬(s[k].toNat:Int)≤122:=by omega
     go_wp2_with fail
     exact ⟨⟨k+1,by omega,rfl,by rw [q9 HO2],j4 (j6 (q9 B) ((Below.refl _ _).alloc (Nat.le_refl _) _))⟩,by simp [intOf];omega⟩
    ·have h1':¬(97:Int)≤(s[k].toNat:Int):=by omega
     go_wp2_with fail
     exact ⟨⟨k+1,by omega,rfl,by rw [q9 HO2],j4 (j6 (q9 B) ((Below.refl _ _).alloc (Nat.le_refl _) _))⟩,by simp [intOf];omega⟩
  ·obtain rfl:k=s.size:=by omega
   rw [List.take_of_length_le (by rw [qa5];exact Nat.le_refl _)]
   go_wp2_with fail
   go_ret
   exact ⟨rfl,q9 B⟩
end
end Go.Proofs.YtfkcaldjphakpaaGreatDoor
