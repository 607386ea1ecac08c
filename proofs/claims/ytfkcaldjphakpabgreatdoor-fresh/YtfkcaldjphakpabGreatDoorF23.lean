/- Messages and their order; a heap in memory: above, Before, before, swap. A heap in memory: rise. A heap in memory: Len, Push. A heap in memory: first, sink. -/
import Derived.Test.YtfkcaldjphakpabGreatDoorF19
import Derived.Deep.RegionHeld3
import Derived.Deep.RegionWith
set_option maxHeartbeats 1000000
set_option maxRecDepth 100000
namespace Go.Proofs.YtfkcaldjphakpabGreatDoor
open Go.RowKit
section
structure Mg where
 pri:Int
 num:Int
def bef (x y:Mg):Bool:=if x.pri != y.pri then decide (y.pri<x.pri) else decide (x.num<y.num)
def mgV (x:Mg):Value:=.agg #[.int .i64 x.pri,.int .i64 x.num]
theorem before_mg (x y:Mg) (w:World):Calls Tryz.prog 159 #[mgV x,mgV y] w fun e w'=>e=.returned (.bool (bef x y))∧Below w.heap.size w w':=by
 unfold mgV
 by_cases h:x.pri=y.pri
 ·have hb:bef x y=decide (x.num<y.num):=by simp [bef,h]
  have hd:(x.pri != y.pri)=false:=by simp [h]
  rw [hb]
  go_enter Tryz.func159,Tryz.ntmps159
  go_wp2_with fail
  go_ret
  exact ⟨rfl,qh0 w _ _⟩
 ·have hb:bef x y=decide (y.pri<x.pri):=by simp [bef,h]
  have hd:(x.pri != y.pri)=true:=by simp [h]
  have hg:decide (x.pri > y.pri)=decide (y.pri<x.pri):=rfl
  rw [hb]
  go_enter Tryz.func159,Tryz.ntmps159
  go_wp2_with fail
  go_ret
  exact ⟨rfl,qh0 w _ _⟩
theorem above_any (k:Nat) (hk:k≤1000) (w:World):Calls Tryz.prog 108 #[.int .i64 ((k+1:Nat):Int)] w fun e w'=>e=.returned (.int .i64 ((k / 2:Nat):Int))∧w'=w:=by
 have h1:(((k+1:Nat):Int) - 1)=(k:Int):=by omega
 go_enter Tryz.func108,Tryz.ntmps108
 go_wp2_with fail
 go_ret
 exact ⟨rfl,rfl⟩
def MgBlk (w:World) (g cap:Nat):Prop:=cap≤maxLen∧∃cur:Array Value,w.heap[g]?=some (.cells cur 102 (0,0))∧cur.size=cap * 2
theorem MgBlk.same {w w':World} {g cap:Nat} (h:MgBlk w g cap) (hb:w'.heap[g]?=w.heap[g]?):MgBlk w' g cap:=by
 obtain ⟨hm,cur,h1,h2⟩:=h
 exact ⟨hm,cur,hb.trans h1,h2⟩
theorem MgBlk.set {w:World} {g cap:Nat} (h:MgBlk w g cap) (o:Nat) (v:Value):MgBlk (w.setCell ⟨g,o,none⟩ v) g cap:=by
 obtain ⟨hm,cur,h1,h2⟩:=h
 refine ⟨hm,cur.setIfInBounds o v, ?_,by simpa using h2⟩
 simp [World.setCell,Array.getElem?_modify,h1]
structure HpAt (w:World) (hb ho g cap:Nat) (ms:List Mg):Prop where
 c:w.cell? ⟨hb,ho,none⟩=some (.slice (some ⟨g,0,none⟩) ms.length cap)
 fz:w.frozen? ⟨hb,ho,none⟩=false
 ne:g≠hb
 lt:hb<w.heap.size
 glt:g<w.heap.size
 pri:∀(i:Nat) (m:Mg),ms[i]?=some m→w.cell? ⟨g,i * 2,none⟩=some (.int .i64 m.pri)∧w.cell? ⟨g,i * 2+1,none⟩=some (.int .i64 m.num)
 gfz:∀j,w.frozen? ⟨g,j,none⟩=false
 blk:MgBlk w g cap
 room:ms.length≤cap
theorem HpAt.below {w w':World} {hb ho g cap:Nat} {ms:List Mg} (h:HpAt w hb ho g cap ms) (hB:Below w.heap.size w w'):HpAt w' hb ho g cap ms:=by
 obtain ⟨hc,hf⟩:=j6 hB
 exact ⟨(hc hb ho h.lt).trans h.c,(hf hb ho h.lt).trans h.fz,h.ne,Nat.lt_of_lt_of_le h.lt hB.size,Nat.lt_of_lt_of_le h.glt hB.size,fun i m hm=>⟨(hc g _ h.glt).trans (h.pri i m hm).1,(hc g _ h.glt).trans (h.pri i m hm).2⟩,fun j=>(hf g j h.glt).trans (h.gfz j),h.blk.same (hB.block g h.glt),h.room⟩
theorem HpAt.swap {w:World} {hb ho g cap:Nat} {ms:List Mg} (h:HpAt w hb ho g cap ms) {i j:Nat} {x y:Mg} (hx:ms[i]?=some x) (hy:ms[j]?=some y) (hij:i≠j) :
  HpAt ((((w.setCell ⟨g,i * 2,none⟩ (.int .i64 y.pri)).setCell ⟨g,i * 2+1,none⟩ (.int .i64 y.num)).setCell ⟨g,j * 2,none⟩ (.int .i64 x.pri)).setCell ⟨g,j * 2+1,none⟩ (.int .i64 x.num)) hb ho g cap ((ms.set i y).set j x):=by
 obtain ⟨c,fz,ne,lt,glt,cells,gfz,blk,room⟩:=h
 obtain ⟨x0,x1⟩:=cells i x hx
 obtain ⟨y0,y1⟩:=cells j y hy
 have hi:i<ms.length:=(List.getElem?_eq_some_iff.1 hx).1
 have hj:j<ms.length:=(List.getElem?_eq_some_iff.1 hy).1
 have ne':¬hb=g:=fun e=>ne e.symm
 refine ⟨by simp [go_sem,c],by simp [go_sem,fz],ne,by simpa using lt,by simpa using glt,fun k m hm=>?_,fun j=>by simp [go_sem,gfz],(((blk.set _ _).set _ _).set _ _).set _ _,by simpa using room⟩
 by_cases hkj:k=j
 ·subst hkj
  rw [List.getElem?_set_self (by simpa using hj)] at hm
  simp at hm
  subst hm
  constructor<;>simp [go_sem,y0,y1]
 ·rw [List.getElem?_set_ne (fun e=>hkj e.symm)] at hm
  by_cases hki:k=i
  ·subst hki
   rw [List.getElem?_set_self hi] at hm
   simp at hm
   subst hm
   constructor<;>simp [go_sem,x0,x1]
  ·rw [List.getElem?_set_ne (fun e=>hki e.symm)] at hm
   obtain ⟨m0,m1⟩:=cells k m hm
   constructor<;>simp [go_sem,m0,m1]
theorem jt4 (hb ho g cap:Nat) (ms:List Mg) (i j:Nat) (x y:Mg) (hx:ms[i]?=some x) (hy:ms[j]?=some y) (hij:i≠j) (w:World) (h:HpAt w hb ho g cap ms) :
  Calls Tryz.prog 109 #[.pointer (some ⟨hb,ho,none⟩),.int .i64 i,.int .i64 j] w fun e w'=>e=.returned (.tuple #[])∧HpAt w' hb ho g cap ((ms.set i y).set j x)∧Kept g w w':=by
 have HS:=v7 ((h.below (Below.refl _ _).drew).swap hx hy hij)
 obtain ⟨c,fz,ne,lt,glt,cells,gfz,blk,room⟩:=h
 obtain ⟨x0,x1⟩:=cells i x hx
 obtain ⟨y0,y1⟩:=cells j y hy
 have hi:i<ms.length:=(List.getElem?_eq_some_iff.1 hx).1
 have hj:j<ms.length:=(List.getElem?_eq_some_iff.1 hy).1
 obtain ⟨n,hn⟩:∃n,ms.length=n:=⟨_,rfl⟩
 rw [hn] at c hi hj
 have i0:(0:Int)≤(i:Int):=by omega
 have i1:(i:Int)<(n:Int):=by omega
 have j0:(0:Int)≤(j:Int):=by omega
 have j1:(j:Int)<(n:Int):=by omega
 have d0:¬i * 2=j * 2:=by omega
 have d1:¬i * 2+1=j * 2:=by omega
 have d2:¬i * 2=j * 2+1:=by omega
 have d3:¬j * 2=i * 2:=by omega
 have d4:¬j * 2=i * 2+1:=by omega
 have d5:¬i=j:=hij
 have d6:¬j=i:=fun e=>hij e.symm
 have HK:Hid (Kept g w ((((w.setCell ⟨g,i * 2,none⟩ (.int .i64 y.pri)).setCell ⟨g,i * 2+1,none⟩ (.int .i64 y.num)).setCell ⟨g,j * 2,none⟩ (.int .i64 x.pri)).setCell ⟨g,j * 2+1,none⟩ (.int .i64 x.num)).drew):=v7 (((((Kept.refl g w).setCell _ _).setCell _ _).setCell _ _).setCell _ _).drew
 clear cells hx hy hn hij blk room
 go_enter Tryz.func109,Tryz.ntmps109
 go_region
 all_goals go_wp2_with fail
 all_goals exact bodyPost_end (results_none rfl _ _ _) rfl ⟨rfl,q9 HS,q9 HK⟩
def BS5 (hb ho g n cap i j:Nat) (x y:Mg) (w':World):Prop:=w'.cell? ⟨hb,ho,none⟩=some (.slice (some ⟨g,0,none⟩) n cap)∧w'.cell? ⟨g,i * 2,none⟩=some (.int .i64 x.pri)∧w'.cell? ⟨g,i * 2+1,none⟩=some (.int .i64 x.num)∧w'.cell? ⟨g,j * 2,none⟩=some (.int .i64 y.pri)∧w'.cell? ⟨g,j * 2+1,none⟩=some (.int .i64 y.num)
theorem HpAt.bs5 {w:World} {hb ho g cap:Nat} {ms:List Mg} (h:HpAt w hb ho g cap ms) {i j:Nat} {x y:Mg} (hx:ms[i]?=some x) (hy:ms[j]?=some y):BS5 hb ho g ms.length cap i j x y w:=
 ⟨h.c,(h.pri i x hx).1,(h.pri i x hx).2,(h.pri j y hy).1,(h.pri j y hy).2⟩
theorem vr7 (hb ho g cap:Nat) (ms:List Mg) (i j:Nat) (x y:Mg) (hx:ms[i]?=some x) (hy:ms[j]?=some y) (w:World) (h:HpAt w hb ho g cap ms) :
  Calls Tryz.prog 107 #[.pointer (some ⟨hb,ho,none⟩),.int .i64 i,.int .i64 j] w fun e w'=>e=.returned (.bool (bef x y))∧Below w.heap.size w w':=by
 have hi:i<ms.length:=(List.getElem?_eq_some_iff.1 hx).1
 have hj:j<ms.length:=(List.getElem?_eq_some_iff.1 hy).1
 have s0:=(h.below (Below.refl _ _).drew).bs5 hx hy
 have SB:Hid (∀w',Below w.heap.size w w'→BS5 hb ho g ms.length cap i j x y w'):=v7 fun w' hB=>(h.below hB).bs5 hx hy
 obtain ⟨n,hn⟩:∃n,ms.length=n:=⟨_,rfl⟩
 rw [hn] at s0 SB hi hj
 have i0:(0:Int)≤(i:Int):=by omega
 have i1:(i:Int)<(n:Int):=by omega
 have j0:(0:Int)≤(j:Int):=by omega
 have j1:(j:Int)<(n:Int):=by omega
 unfold BS5 at s0
 have BM:=v7 (fun w=>before_mg x y w)
 unfold mgV at BM
 clear h hx hy hn
 go_enter Tryz.func107,Tryz.ntmps107
 go_wp2_with fail
 go_region_held3 (fun w'=>w'.cell? ⟨hb,ho,none⟩=some (.slice (some ⟨g,0,none⟩) n cap)∧w'.cell? ⟨g,i * 2,none⟩=some (.int .i64 x.pri)∧w'.cell? ⟨g,i * 2+1,none⟩=some (.int .i64 x.num)∧w'.cell? ⟨g,j * 2,none⟩=some (.int .i64 y.pri)∧w'.cell? ⟨g,j * 2+1,none⟩=some (.int .i64 y.num)) (with_reducible assumption) ((go_at_call 159;refine (q9 BM _).mono ?_;rintro e w1 ⟨rfl,hb1⟩;have B1:=v7 (v8 (Below.refl _ w).drew hb1);have s1:=q9 SB w1 (q9 B1);unfold BS5 at s1;clear hb1))
 all_goals go_wp2_with fail
 all_goals go_ret
 all_goals exact ⟨rfl,q9 B1⟩
end
section
def vh3:Nat→List Mg→Nat→List Mg
 | 0,ms,_=>ms
 | _+1,ms,0=>ms
 | n+1,ms,k+1=>match ms[k+1]?,ms[k / 2]? with
  | some x,some y=>if bef x y then vh3 n ((ms.set (k+1) y).set (k / 2) x) (k / 2) else ms
  | _,_=>ms
def jm7 (ms:List Mg) (k:Nat):List Mg:=vh3 (k+1) ms k
theorem za2 (n:Nat) (ms:List Mg):vh3 n ms 0=ms:=by cases n<;>rfl
theorem za1 {n:Nat} {ms:List Mg} {k:Nat} {x y:Mg} (hx:ms[k+1]?=some x) (hy:ms[k / 2]?=some y) (hb:bef x y=false):vh3 n ms (k+1)=ms:=by
 cases n with
 | zero=>rfl
 | succ n=>rw [vh3,hx,hy];simp [hb]
theorem riseF_go {n:Nat} {ms:List Mg} {k:Nat} {x y:Mg} (hx:ms[k+1]?=some x) (hy:ms[k / 2]?=some y) (hb:bef x y=true):vh3 (n+1) ms (k+1)=vh3 n ((ms.set (k+1) y).set (k / 2) x) (k / 2):=by
 rw [vh3,hx,hy];simp [hb]
theorem rise_any (hb ho g cap:Nat) (ms:List Mg) (k:Nat) (hk:k<ms.length) (hn:ms.length≤100) (w:World) (h:HpAt w hb ho g cap ms) :
  Calls Tryz.prog 71 #[.pointer (some ⟨hb,ho,none⟩),.int .i64 k] w fun e w'=>e=.returned (.tuple #[])∧HpAt w' hb ho g cap (jm7 ms k)∧Kept g w w':=by
 obtain ⟨R,hR⟩:∃R,jm7 ms k=R:=⟨_,rfl⟩
 rw [hR]
 have HR:Hid (R=vh3 (k+1) ms k):=v7 hR.symm
 have H0:=v7 h
 have HK0:Hid (k<ms.length):=v7 hk
 have HN0:Hid (ms.length≤100):=v7 hn
 clear hR h hk hn
 go_enter Tryz.func71,Tryz.ntmps71
 go_wp2_with fail
 go_loopw [1] (fun i wr=>∃(j n:Nat) (ms':List Mg),i=.int .i64 j∧Hid (R=vh3 n ms' j)∧Hid (j<ms'.length)∧Hid (j<n)∧Hid (ms'.length≤100)∧Hid (HpAt wr hb ho g cap ms')∧Hid (Kept g w wr)) (fun i _=>(intOf i).toNat)
 case atStart=>exact ⟨k,k+1,ms,rfl,HR,HK0,v7 (Nat.lt_succ_self _),HN0,H0,v7 (Kept.refl _ _)⟩
 case round=>
  obtain ⟨j,n,ms',rfl,HR',HJ,HJN,HN,HH,HK⟩:=hrel
  cases j with
  | zero=>
   go_wp2_with fail
   exact bodyPost_end (results_none rfl _ _ _) rfl ⟨rfl,by rw [q9 HR',za2];exact q9 HH,q9 HK⟩
  | succ j=>
   obtain ⟨x,hx⟩:∃x,ms'[j+1]?=some x:=⟨_,List.getElem?_eq_getElem (q9 HJ)⟩
   obtain ⟨y,hy⟩:∃y,ms'[j / 2]?=some y:=⟨_,List.getElem?_eq_getElem (by have:=q9 HJ;omega)⟩
   have hj:j≤1000:=by have:=q9 HJ;have:=q9 HN;omega
   have AB:=v7 (fun w=>above_any j hj w)
   have BE:=v7 (fun w1 (hB:Below wr.heap.size wr w1)=>vr7 hb ho g cap ms' (j+1) (j / 2) x y hx hy w1 ((q9 HH).below hB))
   have hd0:decide (((j+1:Nat):Int) > 0)=true:=decide_eq_true (by omega)
   cases hbef:bef x y with
   | false=>
    rw [hbef] at BE
    have hS:=v7 (za1 (n:=n) hx hy hbef)
    clear hx hy
    go_wp2_with (first|(go_at_call 107;refine (q9 BE _ (Below.refl _ _)).mono ?_;rintro e w2 ⟨rfl,hb2⟩;have B2:=v7 hb2;clear hb2)|(go_at_call 108;refine (q9 AB _).mono ?_;rintro e w1 ⟨rfl,rfl⟩))
    exact bodyPost_end (results_none rfl _ _ _) rfl ⟨rfl,by rw [q9 HR',q9 hS];exact (q9 HH).below (q9 B2),(q9 HK).trans (Kept.of_below (q9 B2))⟩
   | true=>
    rw [hbef] at BE
    obtain ⟨n',rfl⟩:∃n',n=n'+1:=⟨n - 1,by have:=q9 HJN;omega⟩
    have hS:=v7 (riseF_go (n:=n') hx hy hbef)
    have SW:=v7 (fun w1 (hB:Below wr.heap.size wr w1)=>jt4 hb ho g cap ms' (j+1) (j / 2) x y hx hy (by omega) w1 ((q9 HH).below hB))
    have hlen:Hid (((ms'.set (j+1) y).set (j / 2) x).length=ms'.length):=v7 (by simp)
    clear hx hy
    go_wp2_with (first|(go_at_call 109;refine (q9 SW _ (q9 B2)).mono ?_;rintro e w3 ⟨rfl,hh3,hk3⟩;have H3:=v7 hh3;have K3:=v7 (((q9 HK).trans (Kept.of_below (q9 B2))).trans hk3);clear hh3 hk3)|(go_at_call 107;refine (q9 BE _ (Below.refl _ _)).mono ?_;rintro e w2 ⟨rfl,hb2⟩;have B2:=v7 hb2;clear hb2)|(go_at_call 108;refine (q9 AB _).mono ?_;rintro e w1 ⟨rfl,rfl⟩))
    exact ⟨⟨j / 2,n',_,rfl,v7 (by rw [q9 HR',q9 hS]),v7 (by have:=q9 HJ;rw [q9 hlen];omega),v7 (by have:=q9 HJN;omega),v7 (by rw [q9 hlen];exact q9 HN),H3,K3⟩,by simp [intOf];omega⟩
end
section
attribute [local go_sem ↓] qc3
def qp8 (ms:List Mg):List Value:=ms.flatMap fun m=>[.int .i64 m.pri,.int .i64 m.num]
theorem va5 (ms:List Mg):(qp8 ms).length=ms.length * 2:=by
 induction ms with
 | nil=>rfl
 | cons t ts ih=>rw [qp8,List.flatMap_cons,List.length_append,←qp8,ih];simp;omega
theorem va8 {ms:List Mg} {i:Nat} {m:Mg} (h:ms[i]?=some m):(qp8 ms)[i * 2]?=some (.int .i64 m.pri)∧(qp8 ms)[i * 2+1]?=some (.int .i64 m.num):=by
 induction ms generalizing i with
 | nil=>simp at h
 | cons t ts ih=>
  rw [qp8,List.flatMap_cons,←qp8]
  cases i with
  | zero=>
   simp at h
   subst h
   exact ⟨rfl,rfl⟩
  | succ i=>
   have:=ih (by simpa using h)
   rw [List.getElem?_append_right (by show 2≤_;omega),List.getElem?_append_right (by show 2≤_;omega),show (i+1) * 2 - [Value.int .i64 t.pri,Value.int .i64 t.num].length=i * 2 by show _ - 2=_;omega,show (i+1) * 2+1 - [Value.int .i64 t.pri,Value.int .i64 t.num].length=i * 2+1 by show _ - 2=_;omega]
   exact this
theorem info_mg:(Tryz.prog.info? 102).map (fun i=>(i.zero,i.size,i.bytes))=some (some (.agg #[.int .i64 0,.int .i64 0]),2,16):=by kernel_rfl
structure HqAt (w:World) (hb ho:Nat) (v:Value) (base:Nat) (ms:List Mg):Prop where
 c:w.cell? ⟨hb,ho,none⟩=some v
 fz:w.frozen? ⟨hb,ho,none⟩=false
 lt:hb<w.heap.size
 own:w.ownsRow base 102 2 v ms.length (qp8 ms)
 ne:v.ownBlock≠some hb
theorem HqAt.form {w:World} {hb ho:Nat} {v:Value} {base:Nat} {ms:List Mg} (h:HqAt w hb ho v base ms):∃a c,v=.slice a ms.length c:=by
 rcases h.own.2 with ⟨rfl,hn⟩|⟨g,cap,cur,rfl,_⟩
 ·exact ⟨none,0,by rw [hn]⟩
 ·exact ⟨_,_,rfl⟩
theorem HqAt.hp {w:World} {hb ho base g cap n:Nat} {ms:List Mg} (h:HqAt w hb ho (.slice (some ⟨g,0,none⟩) n cap) base ms):HpAt w hb ho g cap ms∧base≤g∧n=ms.length:=by
 have h0:=h.own
 rcases h.own.2 with ⟨hv,_⟩|⟨g',cap',cur,hv,hbg,hgg,hnc,hcm,hcs,_⟩
 ·simp at hv
 ·simp at hv
  obtain ⟨rfl,rfl,rfl⟩:=hv
  have hadd:∀j,(⟨g,0,none⟩:Addr).add j=⟨g,j,none⟩:=fun j=>by unfold Addr.add;split<;>simp_all
  refine ⟨⟨h.c,h.fz,fun e=>h.ne (by rw [e];rfl),h.lt,(Array.getElem?_eq_some_iff.1 hgg).1,fun i m hm=>?_,fun j=>by simp [World.frozen?,hgg],⟨hcm,cur,hgg,hcs⟩,hnc⟩,hbg,rfl⟩
  have h1:=World.ownsRow.cells h0 (g:=g) rfl (i * 2) _ (va8 hm).1
  have h2:=World.ownsRow.cells h0 (g:=g) rfl (i * 2+1) _ (va8 hm).2
  rw [hadd] at h1 h2
  exact ⟨h1,h2⟩
theorem HpAt.hq {w:World} {hb ho g cap base:Nat} {ms:List Mg} (h:HpAt w hb ho g cap ms) (hg:base≤g):HqAt w hb ho (.slice (some ⟨g,0,none⟩) ms.length cap) base ms:=by
 obtain ⟨hm,cur,hh,hsz⟩:=h.blk
 have hroom:=h.room
 refine ⟨h.c,h.fz,h.lt,⟨va5 ms,.inr ⟨g,cap,cur,rfl,hg,hh,hroom,hm,hsz, ?_⟩⟩,fun e=>h.ne (by simpa [Value.ownBlock] using e)⟩
 apply List.ext_getElem?
 intro j
 have hcell:∀j,w.cell? ⟨g,j,none⟩=cur[j]?:=fun j=>cell_of_row w g j cur _ _ hh
 rw [List.getElem?_take]
 by_cases hj:j<ms.length * 2
 ·rw [if_pos hj]
  obtain ⟨m,hm⟩:∃m,ms[j / 2]?=some m:=⟨_,List.getElem?_eq_getElem (by omega)⟩
  obtain ⟨h1,h2⟩:=h.pri _ m hm
  obtain ⟨k1,k2⟩:=va8 hm
  rw [hcell] at h1 h2
  rcases Nat.mod_two_eq_zero_or_one j with h0|h0
  ·have e:j / 2 * 2=j:=by omega
   rw [e] at h1 k1
   rw [k1,←h1]
   simp
  ·have e:j / 2 * 2+1=j:=by omega
   rw [e] at h2 k2
   rw [k2,←h2]
   simp
 ·rw [if_neg hj,List.getElem?_eq_none (by rw [va5];omega)]
structure PqKept (hb ho:Nat) (v v':Value) (w w':World):Prop where
 os:w'.os=w.os
 tape:w'.tape=w.tape
 output:w'.output=w.output
 size:w.heap.size≤w'.heap.size
 block:∀k,k<w.heap.size→k≠hb→v.ownBlock≠some k→w'.heap[k]?=w.heap[k]?
 hdr:w'.heap[hb]?=(w.setCell ⟨hb,ho,none⟩ v').heap[hb]?
 row:∀k,v'.ownBlock=some k→v.ownBlock=some k∨w.heap.size≤k
theorem PqKept.next {hb ho g:Nat} {v v':Value} {w W w':World} (h:PqKept hb ho v v' w W) (hk:Kept g W w') (hg:v.ownBlock=some g∨w.heap.size≤g) (hne:g≠hb) (hlt:hb<w.heap.size):PqKept hb ho v v' w w':=by
 have hz:=h.size
 refine ⟨hk.os.trans h.os,hk.tape.trans h.tape,hk.output.trans h.output,Nat.le_trans h.size hk.size,fun k h1 h2 h3=>(hk.block k (by omega) (fun e=>?_)).trans (h.block k h1 h2 h3),(hk.block hb (by omega) (fun e=>hne e.symm)).trans h.hdr,h.row⟩
 rcases hg with hg|hg
 ·exact h3 (by rw [hg,e])
 ·omega
theorem hlen_any (hb ho base:Nat) (v:Value) (ms:List Mg) (w:World) (h:HqAt w hb ho v base ms):Calls Tryz.prog 43 #[.pointer (some ⟨hb,ho,none⟩)] w fun e w'=>e=.returned (.int .i64 ms.length)∧w'=w:=by
 have c:=h.c
 obtain ⟨a,cp,rfl⟩:=h.form
 clear h
 go_enter Tryz.func43,Tryz.ntmps43
 go_wp2_with fail
 go_ret
 exact ⟨rfl,rfl⟩
theorem HqAt.app {w:World} {hb ho base:Nat} {v:Value} {ms:List Mg} (h:HqAt w hb ho v base ms) (hbase:base≤w.heap.size) (hn:ms.length≤1000) (m:Mg) (o:Obj) :
  ∃g cap w5,(qh7 #[79,79] 79 #[v,.slice (some ⟨w.heap.size+1,0,none⟩) 1 1]).run Tryz.prog ((w.alloc o).alloc (.cells #[.int .i64 m.pri,.int .i64 m.num] 102)).drew=.ok (.slice (some ⟨g,0,none⟩) (ms.length+1) cap) w5 ∧
   w5.cell? ⟨hb,ho,none⟩=some v∧w5.frozen? ⟨hb,ho,none⟩=false∧hb<w5.heap.size ∧
   Hid (HpAt (w5.setCell ⟨hb,ho,none⟩ (.slice (some ⟨g,0,none⟩) (ms.length+1) cap)) hb ho g cap (ms++[m]))∧Hid (base≤g) ∧
   Hid (PqKept hb ho v (.slice (some ⟨g,0,none⟩) (ms.length+1) cap) w (w5.setCell ⟨hb,ho,none⟩ (.slice (some ⟨g,0,none⟩) (ms.length+1) cap))):=by
 obtain ⟨i0,hi,hz0,hz1,hz2⟩:=info_parts info_mg
 have hlt:=h.lt
 have hB:Below w.heap.size w (w.alloc o):=(Below.refl _ _).alloc (Nat.le_refl _) o
 obtain ⟨g,cap,w5,hr,hown,hgrow,hat,hlt5⟩:=run_append_lies (P:=Tryz.prog) ((w.alloc o).alloc (.cells #[.int .i64 m.pri,.int .i64 m.num] 102)).drew 79 79 base 102 i0 _ 2 16 Tryz.underlying79 hi hz0 hz1 hz2 rfl (by omega) v ms.length (qp8 ms) (World.ownsRow.alloc (World.ownsRow.alloc h.own o) _)
  ⟨w.heap.size+1,0,none⟩ 1 1 [.int .i64 m.pri,.int .i64 m.num] rfl (World.news_of_block (cs:=#[.int .i64 m.pri,.int .i64 m.num]) (t:=102) (fr:=(0,0)) (by have:=heap_alloc_new (w.alloc o) (.cells #[.int .i64 m.pri,.int .i64 m.num] 102);rw [show (w.alloc o).heap.size=w.heap.size+1 by simp] at this;exact this)) (by simp [Value.oneCell']) (by omega) (by unfold maxLen;omega) (by omega) (by simp;omega) _ rfl
 have hz:=hgrow.size
 simp at hz hat
 have hold:∀k,k<w.heap.size→v.ownBlock≠some k→w5.heap[k]?=w.heap[k]?:=fun k hk hne=>
  (hgrow.block k (by simp;omega) (fun e=>hne e.symm)).trans ((Below.heap_alloc (w.alloc o) _ k (by simp;omega)).trans (Below.heap_alloc w o k hk))
 have hhb:=hold hb hlt h.ne
 have c5:w5.cell? ⟨hb,ho,none⟩=some v:=(World.cell?_of_block (w:=w) (w':=w5) (a:=⟨hb,ho,none⟩) hhb).trans h.c
 have f5:w5.frozen? ⟨hb,ho,none⟩=false:=(World.frozen?_of_block (w:=w) (w':=w5) (a:=⟨hb,ho,none⟩) hhb).trans h.fz
 have hgne:g≠hb:=by
  rcases hat with hat|hat
  ·intro e;rw [e] at hat;exact h.ne hat
  ·omega
 have hown':(w5.setCell ⟨hb,ho,none⟩ (.slice (some ⟨g,0,none⟩) (ms.length+1) cap)).ownsRow base 102 2 (.slice (some ⟨g,0,none⟩) (ms.length+1) cap) (ms++[m]).length (qp8 (ms++[m])):=by
  rw [List.length_append,List.length_singleton,qp8,List.flatMap_append,List.flatMap_singleton]
  exact ownsRow_setCell_other hown (fun e=>hgne (by simpa [Value.ownBlock] using e)) _
 have hq:HqAt (w5.setCell ⟨hb,ho,none⟩ (.slice (some ⟨g,0,none⟩) (ms.length+1) cap)) hb ho (.slice (some ⟨g,0,none⟩) (ms.length+1) cap) base (ms++[m]):=
  ⟨by simp [go_sem,c5],by simp [go_sem,f5],by simp;omega,hown',fun e=>hgne (by simpa [Value.ownBlock] using e)⟩
 obtain ⟨hp,hbg,_⟩:=hq.hp
 refine ⟨g,cap,w5,hr,c5,f5,by omega,v7 hp,v7 hbg,v7 ⟨hgrow.os,hgrow.tape,hgrow.output,by simp;omega,fun k hk h1 h2=>?_, ?_,fun k hk=>?_⟩⟩
 ·exact (Below.heap_setCell w5 ⟨hb,ho,none⟩ _ k (by show k≠hb;exact h1)).trans (hold k hk h2)
 ·simp only [World.setCell,Array.getElem?_modify]
  rw [hhb]
 ·have e:g=k:=by simpa [Value.ownBlock] using hk
  subst e
  rcases hat with hat|hat
  ·exact .inl hat
  ·exact .inr (by omega)
def vq7 (ms:List Mg) (m:Mg):List Mg:=jm7 (ms++[m]) ms.length
theorem vg5 (n:Nat):∀(ms:List Mg) (k:Nat),(vh3 n ms k).length=ms.length:=by
 induction n with
 | zero=>intro ms k;rfl
 | succ n ih=>
  intro ms k
  cases k with
  | zero=>rfl
  | succ k=>
   rw [vh3]
   split
   ·split
    ·rw [ih];simp
    ·rfl
   ·rfl
theorem jd4 (ms:List Mg) (m:Mg):(vq7 ms m).length=ms.length+1:=by
 rw [vq7,jm7,vg5];simp
theorem push_any (hb ho base:Nat) (v:Value) (ms:List Mg) (m:Mg) (hn:ms.length≤90) (w:World) (h:HqAt w hb ho v base ms) (hbase:base≤w.heap.size) :
  Calls Tryz.prog 44 #[.pointer (some ⟨hb,ho,none⟩),mgV m] w fun e w'=>∃v',e=.returned (.tuple #[])∧HqAt w' hb ho v' base (vq7 ms m)∧PqKept hb ho v v' w w':=by
 obtain ⟨g,cap,w5,hap,c5,f5,lt5,HP,HG,HK⟩:=h.app hbase (by omega) m (.cells #[.int .i64 m.pri,.int .i64 m.num] 102)
 have c:=h.c
 have fz:=h.fz
 have lt:=h.lt
 have hlt1:hb<w.heap.size+1:=by omega
 have RI:Hid _:=v7 (rise_any hb ho g cap (ms++[m]) ms.length (by simp) (by simp;omega) _ (q9 HP))
 have HLT:=v7 h.lt
 have HGS:Hid (v.ownBlock=some g∨w.heap.size≤g):=v7 ((q9 HK).row g rfl)
 have HNE:Hid (g≠hb):=v7 (q9 HP).ne
 obtain ⟨a,cp,rfl⟩:=h.form
 obtain ⟨n,hnl⟩:∃n,ms.length=n:=⟨_,rfl⟩
 rw [hnl] at hap RI c HP HK HGS c5 ⊢
 have HN:=v7 hnl
 rw [hnl] at hn
 have hw:IntKind.i64.wrap (((n+1:Nat):Int) - 1)=(n:Int):=by rw [IntKind.wrap_i64];omega
 have hw':(((n+1:Nat):Int) - 1)=(n:Int):=by omega
 unfold mgV
 clear h hnl
 go_enter Tryz.func44,Tryz.ntmps44
 go_wp2_with fail
 go_region
 all_goals go_wp2_with (go_at_call 71;refine (q9 RI).mono ?_;rintro e w6 ⟨rfl,h6,k6⟩;have H6:=v7 h6;have K6:=v7 k6;clear h6 k6)
 all_goals
  refine bodyPost_end (results_none rfl _ _ _) rfl ⟨.slice (some ⟨g,0,none⟩) (n+1) cap,rfl, ?_,(q9 HK).next (q9 K6) (q9 HGS) (q9 HNE) (q9 HLT)⟩
  have hq:=(q9 H6).hq (q9 HG)
  have hl:(jm7 (ms++[m]) n).length=n+1:=by rw [jm7,vg5];simp [q9 HN]
  rw [hl] at hq
  have e:vq7 ms m=jm7 (ms++[m]) n:=by rw [vq7,q9 HN]
  rw [e]
  exact hq
end
section
def jm0 (ms:List Mg) (b f:Nat):Nat:=match ms[b]?,ms[f]? with
 | some x,some y=>if bef x y then b else f
 | _,_=>f
def qn5 (ms:List Mg):Nat→Nat→Nat→Nat
 | 0,_,f=>f
 | n+1,b,f=>if b<ms.length then qn5 ms n (b+1) (jm0 ms b f) else f
def qw6 (ms:List Mg) (k:Nat):Nat:=qn5 ms 2 (2 * k+1) k
theorem pickM_or (ms:List Mg) (b f:Nat):jm0 ms b f=b∨jm0 ms b f=f:=by
 unfold jm0
 split
 ·split<;>simp
 ·exact .inr rfl
theorem firstG_or (ms:List Mg) (n:Nat):∀(b f:Nat),qn5 ms n b f=f∨(b≤qn5 ms n b f∧qn5 ms n b f<b+n∧qn5 ms n b f<ms.length):=by
 induction n with
 | zero=>intro b f;exact .inl rfl
 | succ n ih=>
  intro b f
  rw [qn5]
  by_cases hb:b<ms.length
  ·rw [if_pos hb]
   rcases ih (b+1) (jm0 ms b f) with h|h
   ·rw [h]
    rcases pickM_or ms b f with hp|hp
    ·rw [hp];exact .inr ⟨Nat.le_refl _,by omega,hb⟩
    ·rw [hp];exact .inl rfl
   ·exact .inr ⟨by omega,by omega,h.2.2⟩
  ·rw [if_neg hb]
   exact .inl rfl
theorem firstL_or (ms:List Mg) (k:Nat):qw6 ms k=k∨(k<qw6 ms k∧qw6 ms k<ms.length):=by
 rcases firstG_or ms 2 (2 * k+1) k with h|h
 ·exact .inl h
 ·exact .inr ⟨by unfold qw6;omega,h.2.2⟩
theorem vs5 (hb ho g cap:Nat) (ms:List Mg) (k:Nat) (hk:k≤200) (hn:ms.length≤100) (w:World) (h:HpAt w hb ho g cap ms) :
  Calls Tryz.prog 110 #[.pointer (some ⟨hb,ho,none⟩),.int .i64 k] w fun e w'=>e=.returned (.int .i64 (qw6 ms k:Nat))∧Below w.heap.size w w':=by
 obtain ⟨R,hR⟩:∃R,qw6 ms k=R:=⟨_,rfl⟩
 rw [hR]
 have HR:Hid (R=qn5 ms 2 (2 * k+1) k):=v7 hR.symm
 have H0:=v7 h
 clear hR h
 go_enter Tryz.func110,Tryz.ntmps110
 go_wp2_with fail
 go_loopw [5,6] (fun f i wr=>∃(b n f':Nat),i=.int .i64 b∧f=.int .i64 f'∧b+n=2 * k+3∧f'<b∧Hid (R=qn5 ms n b f')∧Hid (Below w.heap.size w wr)) (fun _ i _=>2 * k+3 - (intOf i).toNat)
 case atStart=>exact ⟨2 * k+1,2,k,by simp,rfl,by omega,by omega,HR,v7 (Below.refl _ _)⟩
 case round=>
  obtain ⟨b,n,f,rfl,rfl,hbn,hfb,HR',HB⟩:=hrel
  have HH:=v7 ((q9 H0).below (q9 HB))
  have c:=(q9 HH).c
  obtain ⟨m,hm⟩:∃m,ms.length=m:=⟨_,rfl⟩
  rw [hm] at c hn
  have HM:=v7 hm
  clear hm
  cases n with
  | zero=>
   have hd:decide ((b:Int)≤2 * (k:Int)+2)=false:=decide_eq_false (by omega)
   go_wp2_with fail
   go_ret
   exact ⟨by rw [q9 HR'];rfl,q9 HB⟩
  | succ n=>
   have hd:decide ((b:Int)≤2 * (k:Int)+2)=true:=decide_eq_true (by omega)
   by_cases hbm:b<m
   ·obtain ⟨x,hx⟩:∃x,ms[b]?=some x:=⟨_,List.getElem?_eq_getElem (by have:=q9 HM;omega)⟩
    obtain ⟨y,hy⟩:∃y,ms[f]?=some y:=⟨_,List.getElem?_eq_getElem (by have:=q9 HM;omega)⟩
    have hd2:decide ((b:Int)<(m:Int))=true:=decide_eq_true (by omega)
    have BE:=v7 (vr7 hb ho g cap ms b f x y hx hy wr (q9 HH))
    cases hbef:bef x y with
    | true=>
     rw [hbef] at BE
     have hS:Hid (qn5 ms (n+1) b f=qn5 ms n (b+1) b):=v7 (by rw [qn5,if_pos (by have:=q9 HM;omega)];congr 1;unfold jm0;rw [hx,hy];simp [hbef])
     clear hx hy
     go_wp2_with (go_at_call 107;refine (q9 BE).mono ?_;rintro e w2 ⟨rfl,hb2⟩;have B2:=v7 (v8 (q9 HB) hb2);clear hb2)
     exact ⟨⟨b+1,n,b,by simp,rfl,by omega,by omega,v7 (by rw [q9 HR',q9 hS]),B2⟩,by simp [intOf];omega⟩
    | false=>
     rw [hbef] at BE
     have hS:Hid (qn5 ms (n+1) b f=qn5 ms n (b+1) f):=v7 (by rw [qn5,if_pos (by have:=q9 HM;omega)];congr 1;unfold jm0;rw [hx,hy];simp [hbef])
     clear hx hy
     go_wp2_with (go_at_call 107;refine (q9 BE).mono ?_;rintro e w2 ⟨rfl,hb2⟩;have B2:=v7 (v8 (q9 HB) hb2);clear hb2)
     exact ⟨⟨b+1,n,f,by simp,rfl,by omega,by omega,v7 (by rw [q9 HR',q9 hS]),B2⟩,by simp [intOf];omega⟩
   ·have hd2:decide ((b:Int)<(m:Int))=false:=decide_eq_false (by omega)
    have hS:Hid (qn5 ms (n+1) b f=f):=v7 (by rw [qn5,if_neg (by have:=q9 HM;omega)])
    go_wp2_with fail
    go_ret
    exact ⟨by rw [q9 HR',q9 hS];rfl,q9 HB⟩
def vn3:Nat→List Mg→Nat→List Mg
 | 0,ms,_=>ms
 | n+1,ms,k=>if qw6 ms k=k then ms else match ms[k]?,ms[qw6 ms k]? with
  | some x,some y=>vn3 n ((ms.set k y).set (qw6 ms k) x) (qw6 ms k)
  | _,_=>ms
def je0 (ms:List Mg) (k:Nat):List Mg:=vn3 (ms.length+1) ms k
theorem sink_any (hb ho g cap:Nat) (ms:List Mg) (hn:ms.length≤100) (w:World) (h:HpAt w hb ho g cap ms) :
  Calls Tryz.prog 72 #[.pointer (some ⟨hb,ho,none⟩),.int .i64 0] w fun e w'=>e=.returned (.tuple #[])∧HpAt w' hb ho g cap (je0 ms 0)∧Kept g w w':=by
 obtain ⟨R,hR⟩:∃R,je0 ms 0=R:=⟨_,rfl⟩
 rw [hR]
 have HR:Hid (R=vn3 (ms.length+1) ms 0):=v7 hR.symm
 have H0:=v7 h
 have F0:=v7 (vs5 hb ho g cap ms 0 (by omega) hn w h)
 have HN0:Hid (ms.length≤100):=v7 hn
 clear hR h hn
 go_enter Tryz.func72,Tryz.ntmps72
 go_wp2_with (go_at_call 110;refine (q9 F0).mono ?_;rintro e w1 ⟨rfl,hb1⟩;have B1:=v7 hb1;clear hb1)
 go_loopw [1,4] (fun i nx wr=>∃(k n:Nat) (ms':List Mg),i=.int .i64 k∧nx=.int .i64 (qw6 ms' k:Nat)∧k≤100∧Hid (R=vn3 n ms' k)∧Hid (k=0∨k<ms'.length)∧Hid (ms'.length<k+n)∧Hid (ms'.length≤100)∧Hid (HpAt wr hb ho g cap ms')∧Hid (Kept g w wr)) (fun i _ _=>200 - (intOf i).toNat)
 case atStart=>exact ⟨0,ms.length+1,ms,rfl,rfl,by omega,HR,v7 (.inl rfl),v7 (by omega),HN0,v7 ((q9 H0).below (q9 B1)),v7 (Kept.of_below (q9 B1))⟩
 case round=>
  obtain ⟨k,n,ms',rfl,rfl,hk,HR',HK0,HKN,HN,HH,HK⟩:=hrel
  have hfo:=firstL_or ms' k
  obtain ⟨f,hf⟩:∃f,qw6 ms' k=f:=⟨_,rfl⟩
  rw [hf] at hfo ⊢
  by_cases hfk:f=k
  ·subst hfk
   have hS:Hid (vn3 n ms' f=ms'):=v7 (by cases n with
    | zero=>rfl
    | succ n=>rw [vn3,if_pos hf])
   clear hf hfo
   go_wp2_with fail
   exact bodyPost_end (results_none rfl _ _ _) rfl ⟨rfl,by rw [q9 HR',q9 hS];exact q9 HH,q9 HK⟩
  ·have hlt:k<f∧f<ms'.length:=by omega
   obtain ⟨n',rfl⟩:∃n',n=n'+1:=⟨n - 1,by have:=q9 HKN;omega⟩
   obtain ⟨x,hx⟩:∃x,ms'[k]?=some x:=⟨_,List.getElem?_eq_getElem (by omega)⟩
   obtain ⟨y,hy⟩:∃y,ms'[f]?=some y:=⟨_,List.getElem?_eq_getElem hlt.2⟩
   have hS:Hid (vn3 (n'+1) ms' k=vn3 n' ((ms'.set k y).set f x) f):=v7 (by rw [vn3,hf,if_neg hfk,hx,hy])
   have hlen:Hid (((ms'.set k y).set f x).length=ms'.length):=v7 (by simp)
   have SW:=v7 (jt4 hb ho g cap ms' k f x y hx hy (by omega) wr (q9 HH))
   have hfl:f≤100:=by have:=q9 HN;omega
   have hne:((f:Int) != (k:Int))=true:=by simp;omega
   have HLT:=v7 hlt
   obtain ⟨ms2,hms2⟩:∃ms2,(ms'.set k y).set f x=ms2:=⟨_,rfl⟩
   rw [hms2] at SW hS hlen
   have FI:Hid (∀w1,HpAt w1 hb ho g cap ms2→_):=v7 fun w1 h1=>vs5 hb ho g cap ms2 f (by omega) (by have:=q9 hlen;have:=q9 HN;omega) w1 h1
   clear hf hfo hlt hx hy hms2
   go_wp2_with (first|(go_at_call 109;refine (q9 SW).mono ?_;rintro e w3 ⟨rfl,hh3,hk3⟩;have H3:=v7 hh3;have K3:=v7 ((q9 HK).trans hk3);clear hh3 hk3)|(go_at_call 110;refine (q9 FI _ (q9 H3)).mono ?_;rintro e w4 ⟨rfl,hb4⟩;have H4:=v7 ((q9 H3).below hb4);have K4:=v7 ((q9 K3).trans (Kept.of_below hb4));clear hb4))
   exact ⟨⟨f,n',ms2,rfl,rfl,hfl,v7 (by rw [q9 HR',q9 hS]),v7 (.inr (by have:=q9 HLT;rw [q9 hlen];omega)),v7 (by have:=q9 HKN;have:=q9 HLT;rw [q9 hlen];omega),v7 (by rw [q9 hlen];exact q9 HN),H4,K4⟩,by have:=q9 HLT;simp [intOf];omega⟩
end
end Go.Proofs.YtfkcaldjphakpabGreatDoor
