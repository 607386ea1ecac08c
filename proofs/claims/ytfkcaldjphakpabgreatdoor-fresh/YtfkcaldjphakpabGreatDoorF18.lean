/- from: the ends that one more piece can reach. The reader of programs: its state in memory; fail, take, next, upTo. The reader of programs: number. The reader of programs: text. The reader of programs: term. -/
import Derived.Test.YtfkcaldjphakpabGreatDoorF16
import Derived.Test.YtfkcaldjphakpabGreatDoorF09
import Derived.Deep.QuietTactic
import Derived.BigQuiet
import Derived.Deep.OwnRows
import Derived.Deep.RegionHeld3
import Derived.Test.YtfkcaldjphakpabGreatDoorF03
set_option maxHeartbeats 2000000
set_option maxRecDepth 100000
namespace Go.Proofs.YtfkcaldjphakpabGreatDoor
open Go.RowKit
section
theorem jb7:(Tryz.prog.info? 4).map (fun i=>(i.zero,i.size,i.bytes))=some (some (.bool false),1,1):=by kernel_rfl
def BoolsAt (w:World) (b n:Nat) (e:Nat→Bool):Prop:=∀j,j≤n→w.cell? ⟨b,j,none⟩=some (.bool (e j))
def qv6 (p:Pc) (t:List UInt8) (e:Nat→Bool) (k:Nat):Nat→Value:=fun j=>.bool (if j≤k then nextB p t e j else false)
structure FromAt (w W:World) (p:Pc) (t:ByteArray) (e:Nat→Bool) (m k:Nat):Prop where
 row:W.rowIs (w.heap.size+1) 4 m (qv6 p t.data.toList e k)
 c0:W.cell? ⟨w.heap.size,0,none⟩=some (.int .i64 p.kind)
 c1:W.cell? ⟨w.heap.size,1,none⟩=some (.int .u8 p.c.toNat)
 lt:w.heap.size+1<W.heap.size
 below:Below w.heap.size w W
theorem getD_at (t:ByteArray) (k:Nat) (h:k<t.size):t.data.toList.getD k 0=t[k]:=by
 rw [List.getD_eq_getElem?_getD,List.getElem?_eq_getElem (by rw [qb0];exact h),qc6 t k h];rfl
theorem FromAt.drew {w W:World} {p:Pc} {t:ByteArray} {e:Nat→Bool} {m k:Nat} (h:FromAt w W p t e m k):FromAt w W.drew p t e m k:=⟨h.row.drew,h.c0,h.c1,h.lt,h.below.drew⟩
theorem FromAt.step {w W:World} {p:Pc} {t:ByteArray} {e:Nat→Bool} {m k:Nat} (h:FromAt w W p t e m k) (v:Bool) (hv:nextB p t.data.toList e (k+1)=v):FromAt w (W.setCell ⟨w.heap.size+1,k+1,none⟩ (.bool v)) p t e m (k+1):=by
 refine ⟨(h.row.set (k+1) (.bool v)).congr fun i _=>?_, ?_, ?_,by simpa using h.lt,h.below.setCell (by show w.heap.size≤w.heap.size+1;omega) _⟩
 ·unfold qv6
  by_cases hi:i=k+1
  ·subst hi;simp [hv]
  ·rw [if_neg hi]
   by_cases hl:i≤k
   ·rw [if_pos hl,if_pos (by omega)]
   ·rw [if_neg hl,if_neg (by omega)]
 ·simp [go_sem,h.c0]
 ·simp [go_sem,h.c1]
theorem ji5 (w:World) (p:Pc) (t:ByteArray) (e:Nat→Bool) (m:Nat) (hk:(p.kind==2)=true):FromAt w ((w.alloc (.cells #[.int .i64 p.kind,.int .u8 p.c.toNat] 257)).alloc (.cells ((madeCells #[.bool false] m).setIfInBounds 0 (.bool (e 0))) 4)) p t e m 0:=by
 have hz:((madeCells #[.bool false] m).setIfInBounds 0 (Value.bool (e 0))).size=m:=by rw [Array.size_setIfInBounds];exact size_madeCells _ _
 have hr:=World.rowIs_alloc (w.alloc (.cells #[.int .i64 p.kind,.int .u8 p.c.toNat] 257)) ((madeCells #[.bool false] m).setIfInBounds 0 (.bool (e 0))) 4 (qv6 p t.data.toList e 0) (fun i hi=>by
  rw [hz] at hi
  rw [Array.getElem?_setIfInBounds]
  by_cases h0:i=0
  ·subst h0
   rw [if_pos rfl,if_pos (by rw [size_madeCells _ _];exact hi),qv6,if_pos (Nat.le_refl _),nextB,hk];rfl
  ·rw [if_neg (fun h=>h0 h.symm),qv6,if_neg (by omega)]
   simp [madeCells,hi,Nat.mod_one])
 rw [hz,show (w.alloc (.cells #[.int .i64 p.kind,.int .u8 p.c.toNat] 257)).heap.size=w.heap.size+1 by simp] at hr
 refine ⟨hr, ?_, ?_,by simp,qh0 _ _ _⟩
 ·rw [World.cell?_alloc_past _ _ _ (by simp),World.cell?_alloc_at _ _ _ _ rfl];rfl
 ·rw [World.cell?_alloc_past _ _ _ (by simp),World.cell?_alloc_at _ _ _ _ rfl];rfl
theorem ji4 (w:World) (p:Pc) (t:ByteArray) (e:Nat→Bool) (m:Nat) (hk:(p.kind==2)=false):FromAt w ((w.alloc (.cells #[.int .i64 p.kind,.int .u8 p.c.toNat] 257)).alloc (.cells (madeCells #[.bool false] m) 4)) p t e m 0:=by
 have hr:=World.rowIs_made (w.alloc (.cells #[.int .i64 p.kind,.int .u8 p.c.toNat] 257)) (.bool false) m 4
 rw [show (w.alloc (.cells #[.int .i64 p.kind,.int .u8 p.c.toNat] 257)).heap.size=w.heap.size+1 by simp] at hr
 refine ⟨hr.congr fun i _=>?_, ?_, ?_,by simp,qh0 _ _ _⟩
 ·unfold qv6
  split
  ·rename_i h;obtain rfl:i=0:=by omega
   rw [nextB,hk];rfl
  ·rfl
 ·rw [World.cell?_alloc_past _ _ _ (by simp),World.cell?_alloc_at _ _ _ _ rfl];rfl
 ·rw [World.cell?_alloc_past _ _ _ (by simp),World.cell?_alloc_at _ _ _ _ rfl];rfl
theorem from_any (p:Pc) (e:Nat→Bool) (eb cap:Nat) (t:ByteArray) (ht:t.size≤1000) (w:World) (he:BoolsAt w eb t.size e) (hlt:eb<w.heap.size) :
  Calls Tryz.prog 196 #[pcV p,.slice (some ⟨eb,0,none⟩) (t.size+1) cap,.string t] w fun en w'=>∃nb,en=.returned (.slice (some ⟨nb,0,none⟩) (t.size+1) (t.size+1))∧w.heap.size≤nb∧nb<w'.heap.size∧BoolsAt w' nb t.size (nextB p t.data.toList e)∧Below w.heap.size w w':=by
 obtain ⟨m,hm⟩:∃m,t.size+1=m:=⟨_,rfl⟩
 have hmk:=run_make_row' (P:=Tryz.prog) 254 4 (.bool false) 1 Tryz.underlying254 jb7 rfl .i64 .i64 m (by omega) (by omega)
 rw [hm]
 have hm0:0<m:=by omega
 have HE:=v7 he
 have e0:=he 0 (Nat.zero_le _)
 have l1:eb<w.heap.size+1:=by omega
 have d0:¬w.heap.size+1=eb:=by omega
 have d1:¬eb=w.heap.size+1:=by omega
 have ROW0:=v7 (World.rowIs_made (w.alloc (.cells #[.int .i64 p.kind,.int .u8 p.c.toNat] 257)) (.bool false) m 4)
 have hrc:=(q9 ROW0).cell (i:=0) hm0
 have hrf:=(q9 ROW0).frozen 0
 rw [show (w.alloc (.cells #[.int .i64 p.kind,.int .u8 p.c.toNat] 257)).heap.size=w.heap.size+1 by simp] at hrc hrf ROW0
 clear he
 cases hk2:(p.kind==2)
 ·have ST:Hid (FromAt w ((w.alloc (.cells #[.int .i64 p.kind,.int .u8 p.c.toNat] 257)).alloc (.cells (madeCells #[.bool false] m) 4)) p t e m 0):=v7 (ji4 w p t e m hk2)
  conv=>arg 3;simp only [pcV]
  go_enter Tryz.func196,Tryz.ntmps196
  go_wp2_with fail
  clear hrc hrf e0 ROW0
  go_loopw [22] (fun i wr=>∃k:Nat,k≤t.size∧i=.int .i64 k∧Hid (FromAt w wr p t e m k)) (fun i _=>t.size - (intOf i).toNat)
  case atStart=>exact ⟨0,Nat.zero_le _,rfl,ST⟩
  case round=>
   obtain ⟨k,hk,rfl,hF⟩:=hrel
   have fc0:=(q9 hF).c0
   have fc1:=(q9 hF).c1
   have hz:=(q9 hF).lt
   by_cases hlt:k<t.size
   ·have ek:=((q9 hF).below.cell (p:=⟨eb,k,none⟩) (by assumption)).trans (q9 HE k (by omega))
    have rk:=(q9 hF).row.cell (i:=k+1) (by omega)
    have rf:=(q9 hF).row.frozen (k+1)
    have hkm:k+1<m:=by omega
    have hkm':k<m:=by omega
    have hi0:(0:Int)≤(k:Int)+1:=by omega
    have hi1:(k:Int)+1<(m:Int):=by omega
    have hi2:(0:Int)≤(k:Int):=by omega
    have hi3:(k:Int)<(m:Int):=by omega
    have hi4:(k:Int)<(t.size:Int):=by omega
    have hwr:IntKind.i64.wrap ((k:Int)+1)=(k:Int)+1:=IntWalk.i64_in _ (by omega)
    cases hk1:(p.kind==1)
    ·cases hek:e k
     ·rw [hek] at ek
      go_wp2_with fail
      go_region
      all_goals
       go_wp2_with fail
       go_roundw
       case rel=>exact ⟨k+1,by omega,by go_num,v7 ((q9 hF).drew.step _ (by rw [nextB,hk2,hk1,hek];simp))⟩
       case measure=>simp [intOf];omega
     ·rw [hek] at ek
      cases hx:(t[k]==p.c)
      all_goals
       have hx':=(vp3 t[k] p.c).trans hx
       go_wp2_with fail
       go_region_held3 (fun W=>W.cell? ⟨eb,k,none⟩=some (.bool true)∧W.cell? ⟨w.heap.size,1,none⟩=some (.int .u8 p.c.toNat)) (go_keep) (fail)
       go_wp2_with fail
       go_roundw
       case rel=>exact ⟨k+1,by omega,by go_num,v7 ((q9 hF).drew.step _ (by rw [nextB,hk2,hk1,hek,getD_at t k hlt,hx];simp))⟩
       case measure=>simp [intOf];omega
    ·obtain ⟨bk,hbk⟩:∃b,e k=b:=⟨_,rfl⟩
     rw [hbk] at ek
     go_wp2_with fail
     go_roundw
     case rel=>exact ⟨k+1,by omega,by go_num,v7 ((q9 hF).step _ (by rw [nextB,hk2,hk1,hbk];simp))⟩
     case measure=>simp [intOf];omega
   ·go_wp2_with fail
    go_ret
    obtain rfl:k=t.size:=by omega
    exact ⟨_,rfl,by omega,hz,fun j hj=>by have:=(q9 hF).row.cell (i:=j) (by omega);rw [this,qv6,if_pos hj],(q9 hF).below⟩
 ·have ST:Hid (FromAt w ((w.alloc (.cells #[.int .i64 p.kind,.int .u8 p.c.toNat] 257)).alloc (.cells ((madeCells #[.bool false] m).setIfInBounds 0 (.bool (e 0))) 4)) p t e m 0):=v7 (ji5 w p t e m hk2)
  conv=>arg 3;simp only [pcV]
  go_enter Tryz.func196,Tryz.ntmps196
  go_wp2_with fail
  clear hrc hrf e0 ROW0
  go_loopw [22] (fun i wr=>∃k:Nat,k≤t.size∧i=.int .i64 k∧Hid (FromAt w wr p t e m k)) (fun i _=>t.size - (intOf i).toNat)
  case atStart=>exact ⟨0,Nat.zero_le _,rfl,ST⟩
  case round=>
   obtain ⟨k,hk,rfl,hF⟩:=hrel
   have fc0:=(q9 hF).c0
   have hz:=(q9 hF).lt
   by_cases hlt:k<t.size
   ·have ek:=((q9 hF).below.cell (p:=⟨eb,k+1,none⟩) (by assumption)).trans (q9 HE (k+1) (by omega))
    have rk:=(q9 hF).row.cell (i:=k+1) (by omega)
    have rf:=(q9 hF).row.frozen (k+1)
    have rk0:wr.cell? ⟨w.heap.size+1,k,none⟩=some (.bool (nextB p t.data.toList e k)):=by have:=(q9 hF).row.cell (i:=k) (by omega);rw [this,qv6,if_pos (Nat.le_refl _)]
    obtain ⟨nk,hnk⟩:∃b,nextB p t.data.toList e k=b:=⟨_,rfl⟩
    rw [hnk] at rk0
    have HNK:=v7 hnk
    clear hnk
    have hkm:k+1<m:=by omega
    have hkm':k<m:=by omega
    have hi0:(0:Int)≤(k:Int)+1:=by omega
    have hi1:(k:Int)+1<(m:Int):=by omega
    cases hek:e (k+1)
    all_goals
     rw [hek] at ek
     go_wp2_with fail
     go_roundw
     case rel=>exact ⟨k+1,by omega,by go_num,v7 ((q9 hF).step _ (by rw [nextB,hk2,hek,q9 HNK];simp))⟩
     case measure=>simp [intOf];omega
   ·go_wp2_with fail
    go_ret
    obtain rfl:k=t.size:=by omega
    exact ⟨_,rfl,by omega,hz,fun j hj=>by have:=(q9 hF).row.cell (i:=j) (by omega);rw [this,qv6,if_pos hj],(q9 hF).below⟩
end
section
structure Ps where
 rest:List UInt8
 bad:Bool
def BytesAt (w:World) (lo:Nat) (v:Value) (l:List UInt8):Prop:=
 ∃a c,v=.slice a l.length c∧l.length≤c∧∀(i:Nat) (x:UInt8),l[i]?=some x→∃b o,a=some ⟨b,o,none⟩∧b<lo∧w.cell? ⟨b,o+i,none⟩=some (.int .u8 (x.toNat:Int))
theorem BytesAt.kept {w w':World} {rb:Nat} {v:Value} {l:List UInt8} (h:BytesAt w rb v l) (hl:rb<w.heap.size) (hk:Kept rb w w'):BytesAt w' rb v l:=by
 obtain ⟨a,c,hv,hc,hx⟩:=h
 refine ⟨a,c,hv,hc,fun i x hi=>?_⟩
 obtain ⟨b,o,ha,hb,hcell⟩:=hx i x hi
 exact ⟨b,o,ha,hb,((x5 hk).1 b (o+i) (by omega) (by omega)).trans hcell⟩
theorem BytesAt.mono {w:World} {lo hi:Nat} {v:Value} {l:List UInt8} (h:BytesAt w lo v l) (hl:lo≤hi):BytesAt w hi v l:=by
 obtain ⟨a,c,hv,hc,hx⟩:=h
 refine ⟨a,c,hv,hc,fun i x hi=>?_⟩
 obtain ⟨b,o,ha,hb,hcell⟩:=hx i x hi
 exact ⟨b,o,ha,by omega,hcell⟩
theorem BytesAt.upto {w:World} {rb:Nat} {a:Option Addr} {c m:Nat} {l:List UInt8} (h:BytesAt w rb (.slice a m c) l) (n:Nat) (hn:n≤l.length):BytesAt w rb (.slice a n c) (l.take n):=by
 obtain ⟨a',c',hv,hc,hx⟩:=h
 simp at hv
 obtain ⟨rfl,rfl,rfl⟩:=hv
 refine ⟨a,c, ?_, ?_,fun i x hi=>?_⟩
 ·rw [List.length_take,Nat.min_eq_left hn]
 ·rw [List.length_take];omega
 ·rw [List.getElem?_take] at hi
  split at hi
  ·exact hx i x hi
  ·simp at hi
theorem BytesAt.over {w:World} {rb:Nat} {a:Option Addr} {c m:Nat} {l:List UInt8} (h:BytesAt w rb (.slice a m c) l) (n:Nat) (hn:n≤l.length):BytesAt w rb (.slice (if c=n then a else a.map (fun x=>x.add n)) (m - n) (c - n)) (l.drop n):=by
 obtain ⟨a',c',hv,hc,hx⟩:=h
 simp at hv
 obtain ⟨rfl,rfl,rfl⟩:=hv
 refine ⟨if c=n then a else a.map (fun x=>x.add n),c - n, ?_, ?_,fun i x hi=>?_⟩
 ·rw [List.length_drop]
 ·rw [List.length_drop];omega
 ·have hi':l[n+i]?=some x:=by rw [List.getElem?_drop] at hi;exact hi
  have hlt:=(List.getElem?_eq_some_iff.1 hi').1
  obtain ⟨b,o,rfl,hb,hcell⟩:=hx (n+i) x hi'
  refine ⟨b,o+n, ?_,hb, ?_⟩
  ·rw [if_neg (by omega)];simp [Addr.add]
  ·rw [Nat.add_assoc];exact hcell
structure PsAt (w:World) (rb:Nat) (s:Ps):Prop where
 lt:rb<w.heap.size
 c0:∃v,w.cell? ⟨rb,0,none⟩=some v∧BytesAt w rb v s.rest
 c1:w.cell? ⟨rb,1,none⟩=some (.bool s.bad)
 fz:∀j,w.frozen? ⟨rb,j,none⟩=false
theorem BytesAt.nil (w:World) (rb:Nat):BytesAt w rb (.slice none 0 0) []:=⟨none,0,rfl,Nat.le_refl _,fun i x hi=>by simp at hi⟩
def failS:Ps:=⟨[],true⟩
def Ps.take (s:Ps) (n:Nat):List UInt8×Ps:=if n≤s.rest.length then (s.rest.take n,⟨s.rest.drop n,s.bad⟩) else (List.replicate n 0,failS)
def Ps.next (s:Ps):UInt8×Ps:=((s.take 1).1.headD 0,(s.take 1).2)
def Ps.upTo (s:Ps) (most:Int):Nat×Ps:=if most<(s.next.1.toNat:Int) then (0,failS) else (s.next.1.toNat,s.next.2)
theorem PsAt.same {w w':World} {rb:Nat} {s:Ps} (h:PsAt w rb s) (hz:rb<w'.heap.size) (hb:∀k,k≤rb→w'.heap[k]?=w.heap[k]?):PsAt w' rb s:=by
 obtain ⟨hl,⟨v0,c0,a,c,rfl,hc,hx⟩,c1,fz⟩:=h
 have hc':∀b j,b≤rb→w'.cell? ⟨b,j,none⟩=w.cell? ⟨b,j,none⟩:=fun b j hk=>World.cell?_of_block (w:=w) (w':=w') (a:=⟨b,j,none⟩) (hb b hk)
 have hf':∀b j,b≤rb→w'.frozen? ⟨b,j,none⟩=w.frozen? ⟨b,j,none⟩:=fun b j hk=>World.frozen?_of_block (w:=w) (w':=w') (a:=⟨b,j,none⟩) (hb b hk)
 refine ⟨hz,⟨_,(hc' rb 0 (Nat.le_refl _)).trans c0,a,c,rfl,hc,fun i x hi=>?_⟩,(hc' rb 1 (Nat.le_refl _)).trans c1,fun j=>(hf' rb j (Nat.le_refl _)).trans (fz j)⟩
 obtain ⟨b,o,ha,hbl,hcell⟩:=hx i x hi
 exact ⟨b,o,ha,hbl,(hc' b _ (by omega)).trans hcell⟩
theorem PsAt.alloc {w:World} {rb:Nat} {s:Ps} (h:PsAt w rb s) (o:Obj):PsAt (w.alloc o) rb s:=
 h.same (by have:=h.lt;simp;omega) fun k hk=>((Below.refl w.heap.size w).alloc (Nat.le_refl _) o).block k (by have:=h.lt;omega)
theorem PsAt.later {w:World} {rb:Nat} {s:Ps} (h:PsAt w rb s) {p:Addr} (hp:rb<p.block) (u:Value):PsAt (w.setCell p u) rb s:=
 h.same (by have:=h.lt;simp;omega) fun k hk=>Below.heap_setCell w p u k (by omega)
theorem PsAt.set {w:World} {rb:Nat} {s:Ps} (h:PsAt w rb s) {v:Value} {l:List UInt8} (hv:BytesAt w rb v l):PsAt (w.setCell ⟨rb,0,none⟩ v) rb ⟨l,s.bad⟩:=by
 obtain ⟨hl,⟨v0,c0,_⟩,c1,fz⟩:=h
 exact ⟨by simp;exact hl,⟨v,by simp [go_sem,c0],hv.kept hl ((Kept.refl rb w).setCell 0 v)⟩,by simp [go_sem,c1],fun j=>by simp [go_sem,fz]⟩
theorem PsAt.fails {w:World} {rb:Nat} {s:Ps} (h:PsAt w rb s):PsAt ((w.setCell ⟨rb,0,none⟩ (.slice none 0 0)).setCell ⟨rb,1,none⟩ (.bool true)) rb failS:=by
 obtain ⟨hl,⟨v0,c0,_⟩,c1,fz⟩:=h
 exact ⟨by simp;exact hl,⟨.slice none 0 0,by simp [go_sem,c0],BytesAt.nil _ _⟩,by simp [go_sem,c1,failS],fun j=>by simp [go_sem,fz]⟩
theorem vm1 (rb:Nat) (s:Ps) (w:World) (h:PsAt w rb s) :
  Calls Tryz.prog 99 #[.pointer (some ⟨rb,0,none⟩)] w fun e w'=>e=.returned (.tuple #[])∧PsAt w' rb failS∧Kept rb w w':=by
 have H:=v7 h
 obtain ⟨hl,⟨v0,c0,hv0⟩,c1,fz⟩:=h
 clear hv0
 go_enter Tryz.func99,Tryz.ntmps99
 go_wp2_with fail
 refine bodyPost_end (results_none rfl _ _ _) rfl ⟨rfl,(q9 H).fails, ?_⟩
 exact ((Kept.refl rb w).setCell 0 _).setCell 1 _
theorem take_fits (rb:Nat) (s:Ps) (n:Nat) (w:World) (h:PsAt w rb s) (hn:n≤s.rest.length) :
  Calls Tryz.prog 145 #[.pointer (some ⟨rb,0,none⟩),.int .i64 n] w fun e w'=>∃v,e=.returned v∧BytesAt w' w'.heap.size v (s.rest.take n)∧PsAt w' rb ⟨s.rest.drop n,s.bad⟩∧Kept rb w w':=by
 have H:=v7 h
 obtain ⟨hl,⟨v0,c0,hv0⟩,c1,fz⟩:=h
 obtain ⟨a,c,rfl,hc,hx⟩:∃a c,v0=.slice a s.rest.length c∧s.rest.length≤c∧Hid (BytesAt w rb v0 s.rest):=by
  obtain ⟨a,c,h1,h2,_⟩:=id hv0
  exact ⟨a,c,h1,h2,v7 hv0⟩
 have hn':decide ((n:Int) > (s.rest.length:Int))=false:=by simp;omega
 have hn2:(n:Int)≤(c:Int):=by omega
 have hn3:(n:Int)≤(s.rest.length:Int):=by omega
 have hn4:(0:Int)≤(n:Int):=by omega
 clear hv0
 have hk:∀u,Kept rb w (w.setCell ⟨rb,0,none⟩ u):=fun u=>(Kept.refl rb w).setCell 0 u
 have ho:=(q9 hx).over n hn
 by_cases hcn:c=n
 ·rw [if_pos hcn] at ho
  subst hcn
  rw [Nat.sub_self,show s.rest.length - c=0 by omega] at ho
  have ho:=v7 ho
  go_enter Tryz.func145,Tryz.ntmps145
  go_wp2_with fail
  go_ret
  exact ⟨_,rfl,(((q9 hx).upto _ hn).kept hl (hk _)).mono (by simp;omega),(q9 H).set (q9 ho),hk _⟩
 ·rw [if_neg hcn] at ho
  have ho:=v7 ho
  go_enter Tryz.func145,Tryz.ntmps145
  go_wp2_with fail
  go_ret
  exact ⟨_,rfl,(((q9 hx).upto n hn).kept hl (hk _)).mono (by simp;omega),(q9 H).set (q9 ho),hk _⟩
theorem qx8:(Tryz.prog.info? 5).map (fun i=>(i.zero,i.size,i.bytes))=some (some (.int .u8 0),1,1):=by kernel_rfl
theorem zb6 (rb:Nat) (s:Ps) (n:Nat) (w:World) (h:PsAt w rb s) (hn:s.rest.length<n) (hz:n≤255) :
  Calls Tryz.prog 145 #[.pointer (some ⟨rb,0,none⟩),.int .i64 n] w fun e w'=>∃v,e=.returned v∧BytesAt w' w'.heap.size v (List.replicate n 0)∧PsAt w' rb failS∧Kept rb w w':=by
 have H:=v7 h
 obtain ⟨hl,⟨v0,c0,hv0⟩,c1,fz⟩:=h
 obtain ⟨a,c,rfl,hc⟩:∃a c,v0=.slice a s.rest.length c∧s.rest.length≤c:=by
  obtain ⟨a,c,h1,h2,_⟩:=id hv0
  exact ⟨a,c,h1,h2⟩
 have hn':decide ((n:Int) > (s.rest.length:Int))=true:=by simp;omega
 clear hv0
 have hmk:=run_make_row' (P:=Tryz.prog) 36 5 (.int .u8 0) 1 Tryz.underlying36 qx8 rfl .i64 .i64 n (by omega) (by omega)
 go_enter Tryz.func145,Tryz.ntmps145
 go_wp2_with (go_at_call 99;refine (vm1 rb s _ (q9 H)).mono ?_;rintro e w1 ⟨rfl,hr1,hk1⟩;have hr1:=v7 hr1)
 go_ret
 have hz1:=hk1.size
 refine ⟨_,rfl,⟨some ⟨w1.heap.size,0,none⟩,n, ?_, ?_,fun i x hi=>?_⟩,(q9 hr1).alloc _,hk1.alloc _⟩
 ·rw [List.length_replicate]
  rfl
 ·rw [List.length_replicate];exact Nat.le_refl _
 ·obtain ⟨hi1,hi2⟩:=List.getElem?_eq_some_iff.1 hi
  simp at hi1 hi2
  refine ⟨w1.heap.size,0,rfl,by simp, ?_⟩
  subst hi2
  rw [Nat.zero_add]
  exact (World.rowIs_made w1 (.int .u8 0) n 5).cell hi1
theorem vm2 (rb:Nat) (s:Ps) (n:Nat) (w:World) (h:PsAt w rb s) (hz:n≤255) :
  Calls Tryz.prog 145 #[.pointer (some ⟨rb,0,none⟩),.int .i64 n] w fun e w'=>∃v,e=.returned v∧BytesAt w' w'.heap.size v (s.take n).1∧PsAt w' rb (s.take n).2∧Kept rb w w':=by
 by_cases hn:n≤s.rest.length
 ·rw [Ps.take,if_pos hn];exact take_fits rb s n w h hn
 ·rw [Ps.take,if_neg hn];exact zb6 rb s n w h (by omega) hz
theorem Ps.take_length (s:Ps) (n:Nat):(s.take n).1.length=n:=by
 rw [Ps.take]
 split
 ·rw [List.length_take];omega
 ·exact List.length_replicate ..
theorem qk6 (rb:Nat) (s:Ps) (w:World) (h:PsAt w rb s) :
  Calls Tryz.prog 98 #[.pointer (some ⟨rb,0,none⟩)] w fun e w'=>e=.returned (.int .u8 (s.next.1.toNat:Int))∧PsAt w' rb s.next.2∧Kept rb w w':=by
 have T:Hid _:=v7 (vm2 rb s 1 w h (by decide))
 have hlen:=s.take_length 1
 obtain ⟨x,hx⟩:∃x,(s.take 1).1=[x]:=by
  match hl:(s.take 1).1 with
  | []=>rw [hl] at hlen;simp at hlen
  | [x]=>exact ⟨x,rfl⟩
  | _::_::_=>rw [hl] at hlen;simp at hlen
 have hn1:s.next.1=x:=by rw [Ps.next,hx];rfl
 have hn2:s.next.2=(s.take 1).2:=rfl
 rw [hn1,hn2]
 rw [hx] at T
 clear h hlen hx hn1 hn2
 go_enter Tryz.func98,Tryz.ntmps98
 go_wp2_with (go_at_call 145;refine (q9 T).mono ?_;rintro e w1 ⟨v,rfl,⟨a,c,rfl,hc,hcell⟩,hr1,hk1⟩;obtain ⟨b,o,rfl,hbl,hcl⟩:=hcell 0 x rfl;have hr1:=v7 hr1;simp only [List.length_singleton,Nat.add_zero] at hcl hc ⊢)
 go_ret
 exact ⟨rfl,q9 hr1,hk1⟩
theorem qn8 (rb:Nat) (s:Ps) (m:Int) (w:World) (h:PsAt w rb s) :
  Calls Tryz.prog 67 #[.pointer (some ⟨rb,0,none⟩),.int .i64 m] w fun e w'=>e=.returned (.int .i64 ((s.upTo m).1:Int))∧PsAt w' rb (s.upTo m).2∧Kept rb w w':=by
 have T:Hid _:=v7 (qk6 rb s w h)
 obtain ⟨x,hx⟩:∃x,s.next.1=x:=⟨_,rfl⟩
 rw [hx] at T
 have hx0:(0:Int)≤(x.toNat:Int):=by omega
 have hx1:(x.toNat:Int)<256:=by have:=x.toNat_lt;omega
 clear h
 by_cases hm:m<(x.toNat:Int)
 ·have hd:decide ((x.toNat:Int) > m)=true:=by simpa using hm
  rw [Ps.upTo,hx,if_pos hm]
  clear hm hx
  go_enter Tryz.func67,Tryz.ntmps67
  go_wp2_with (first|(go_at_call 98;refine (q9 T).mono ?_;rintro e w1 ⟨rfl,hr1,hk1⟩;have hr1:=v7 hr1)|(go_at_call 99;refine (vm1 rb _ _ (q9 hr1)).mono ?_;rintro e w2 ⟨rfl,hr2,hk2⟩;have hr2:=v7 hr2))
  go_ret
  exact ⟨rfl,q9 hr2,hk1.trans hk2⟩
 ·have hd:decide ((x.toNat:Int) > m)=false:=by simpa using hm
  rw [Ps.upTo,hx,if_neg hm]
  clear hm hx
  go_enter Tryz.func67,Tryz.ntmps67
  go_wp2_with (go_at_call 98;refine (q9 T).mono ?_;rintro e w1 ⟨rfl,hr1,hk1⟩;have hr1:=v7 hr1)
  go_ret
  exact ⟨rfl,q9 hr1,hk1⟩
end
section
def numS (m:Int) (k:Nat) (x:UInt8):Int:=bits .or .i64 m (wrap64 ((x.toNat:Int) * 2 ^ (8 * k)))
def numK (l:List UInt8):Nat→Int
 | 0=>0
 | k+1=>numS (numK l k) k (l.getD k 0)
theorem jm1 (rb:Nat) (s:Ps) (w:World) (h:PsAt w rb s) :
  Calls Tryz.prog 100 #[.pointer (some ⟨rb,0,none⟩)] w fun e w'=>e=.returned (.int .i64 (numK (s.take 8).1 8))∧PsAt w' rb (s.take 8).2∧Kept rb w w':=by
 have T:Hid _:=v7 (vm2 rb s 8 w h (by decide))
 have hlen:=s.take_length 8
 obtain ⟨l,hl⟩:∃l,(s.take 8).1=l:=⟨_,rfl⟩
 rw [hl] at T hlen ⊢
 clear h hl
 obtain ⟨N,hN⟩:∃N,N=l.length:=⟨_,rfl⟩
 have hN8:Hid (N=8):=v7 (by omega)
 have hNl:Hid (N=l.length):=v7 hN
 clear hlen
 go_enter Tryz.func100,Tryz.ntmps100
 go_wp2_with (go_at_call 145;refine (q9 T).mono ?_;rintro e w1 ⟨v,rfl,⟨a,c,rfl,hc,hcell⟩,hr1,hk1⟩;obtain ⟨b,o,rfl,hbl,hcl⟩:=hcell 0 (l[0]'(by have:=q9 hN8;omega)) (List.getElem?_eq_getElem _);have hr1:=v7 hr1;rw [←hN] at hc ⊢;have HC:Hid _:=v7 hcell;clear hcell hcl hN)
 go_loop [3,9] (fun n i=>∃(k:Nat) (m:Int),k≤N∧i=.int .i64 k∧n=.int .i64 m∧Hid (m=numK l k)) (fun _ i=>N - (intOf i).toNat)
 case atStart=>exact ⟨0,0,by omega,rfl,rfl,v7 rfl⟩
 case round=>
  obtain ⟨k,m,hk,rfl,rfl,hm⟩:=hrel
  by_cases hk8:k<N
  ·have hkl:k<l.length:=by have:=q9 hNl;omega
   have hk64:k<8:=by have:=q9 hN8;omega
   obtain ⟨b',o',hbo,_,hcl⟩:=q9 HC k l[k] (List.getElem?_eq_getElem _)
   simp at hbo
   obtain ⟨rfl,rfl⟩:=hbo
   obtain ⟨x,hx⟩:∃x,l[k]=x:=⟨_,rfl⟩
   rw [hx] at hcl
   have hx0:(0:Int)≤(x.toNat:Int):=by omega
   have hx1:(x.toNat:Int)<256:=by have:=x.toNat_lt;omega
   have hS:Hid (numS m k x=numK l (k+1)):=v7 (by rw [numK,q9 hm,List.getD_eq_getElem?_getD,List.getElem?_eq_getElem hkl,hx];rfl)
   clear hx hm hkl hNl
   go_wp2_with fail
   case roundEnd=>exact ⟨⟨k+1,_,by omega,rfl,rfl,v7 (q9 hS)⟩,by simp [intOf];omega⟩
  ·have:k=N:=by omega
   subst this
   go_wp2_with fail
   go_ret
   refine ⟨?_,q9 hr1,hk1⟩
   rw [←q9 hN8,←q9 hm]
   rfl
end
section
def Ps.number (s:Ps):Int×Ps:=(numK (s.take 8).1 8,(s.take 8).2)
def Ps.text (s:Ps) (most:Int):List UInt8×Ps:=(s.upTo most).2.take (s.upTo most).1
theorem Ps.upTo_le (s:Ps) (m:Int):(s.upTo m).1≤255:=by
 rw [Ps.upTo]
 have:=s.next.1.toNat_lt
 split
 ·exact Nat.zero_le _
 ·show s.next.1.toNat≤255
  omega
theorem jv3 {w:World} {rb:Nat} {v:Value} {l:List UInt8} (h:BytesAt w rb v l):(convert 36 9 v).run Tryz.prog w=.ok (.string (BS l)) w:=by
 obtain ⟨a,c,rfl,hc,hx⟩:=h
 cases l with
 | nil=>
  cases a with
  | none=>rw [show ([]:List UInt8).length=0 from rfl,run_convert_bytes_string w 36 9 5 none 0 c Tryz.underlying36 Tryz.underlying5 Tryz.underlying9];rfl
  | some a=>exact run_convert_bytes_back (P:=Tryz.prog) _ 36 9 5 a c [] Tryz.underlying36 Tryz.underlying5 Tryz.underlying9 (fun j hj=>by simp at hj)
 | cons x l=>
  obtain ⟨b,o,rfl,_⟩:=hx 0 x rfl
  refine run_convert_bytes_back (P:=Tryz.prog) _ 36 9 5 ⟨b,o,none⟩ c (x::l) Tryz.underlying36 Tryz.underlying5 Tryz.underlying9 (fun j hj=>?_)
  obtain ⟨b',o',hbo,_,hcl⟩:=hx j _ (List.getElem?_eq_getElem hj)
  simp at hbo
  obtain ⟨rfl,rfl⟩:=hbo
  have ha:(⟨b,o,none⟩:Addr).add j=⟨b,o+j,none⟩:=by cases j<;>simp [Addr.add]
  rw [ha];exact hcl
theorem vc6 (rb:Nat) (s:Ps) (m:Int) (w:World) (h:PsAt w rb s) :
  Calls Tryz.prog 101 #[.pointer (some ⟨rb,0,none⟩),.int .i64 m] w fun e w'=>e=.returned (.string (BS (s.text m).1))∧PsAt w' rb (s.text m).2∧Kept rb w w':=by
 have T:Hid _:=v7 (qn8 rb s m w h)
 have hle:Hid _:=v7 (s.upTo_le m)
 rw [Ps.text]
 obtain ⟨p,hp⟩:∃p,s.upTo m=p:=⟨_,rfl⟩
 rw [hp] at T hle ⊢
 obtain ⟨n,s1⟩:=p
 obtain ⟨q,hq⟩:∃q,s1.take n=q:=⟨_,rfl⟩
 have T2:Hid (∀w1,PsAt w1 rb s1→Calls Tryz.prog 145 #[.pointer (some ⟨rb,0,none⟩),.int .i64 n] w1 fun e w'=>∃v,e=.returned v∧BytesAt w' w'.heap.size v q.1∧PsAt w' rb q.2∧Kept rb w1 w'):=v7 (by rw [←hq];exact fun w1 h1=>vm2 rb s1 n w1 h1 (q9 hle))
 clear h hp hle
 show Calls _ _ _ _ fun e w'=>e=.returned (.string (BS (s1.take n).1))∧PsAt w' rb (s1.take n).2∧Kept rb w w'
 rw [hq]
 clear hq
 go_enter Tryz.func101,Tryz.ntmps101
 go_wp2_with (first|(go_at_call 67;refine (q9 T).mono ?_;rintro e w1 ⟨rfl,hr1,hk1⟩;have hr1:=v7 hr1)|(go_at_call 145;refine (q9 T2 _ (q9 hr1)).mono ?_;rintro e w2 ⟨v,rfl,hb2,hr2,hk2⟩;have hr2:=v7 hr2;have hcv:=jv3 hb2;obtain ⟨a,c,rfl,hb2⟩:=hb2;clear hb2))
 go_ret
 exact ⟨rfl,q9 hr2,hk1.trans hk2⟩
end
section
structure Tm where
 op:Nat
 left:Nat
 right:Nat
 num:Int
 str:List UInt8
 esc:List UInt8
def Tm.bare (op:Nat):Tm:=⟨op,0,0,0,[],[]⟩
def qs4 (t:Tm):List Value:=[.int .i64 t.op,.int .i64 t.left,.int .i64 t.right,.int .i64 t.num,.string (BS t.str),.string (BS t.esc)]
def tmV (t:Tm):Value:=.agg #[.int .i64 t.op,.int .i64 t.left,.int .i64 t.right,.int .i64 t.num,.string (BS t.str),.string (BS t.esc)]
def qf7 (op:Nat):Bool:=op==6||op==7||op==8||op==10||op==11||op==16||op==17||op==18||op==19
def Ps.body (s:Ps) (pl:Nat) (op:Nat):Tm×Ps:=
 if op=3∨op=4 then (.bare op,s)
 else if op=1 then (⟨op,0,0,s.number.1,[],[]⟩,s.number.2)
 else if op=22 then (⟨op,(s.upTo ((pl:Int) - 1)).1,0,0,(((s.upTo ((pl:Int) - 1)).2.text 1).2.text 200).1,((s.upTo ((pl:Int) - 1)).2.text 1).1⟩,(((s.upTo ((pl:Int) - 1)).2.text 1).2.text 200).2)
 else if op=0∨op=2 then (⟨op,0,0,0,(s.text 200).1,[]⟩,(s.text 200).2)
 else if qf7 op then (⟨op,((s.upTo ((pl:Int) - 1)).2.upTo ((pl:Int) - 1)).1,(s.upTo ((pl:Int) - 1)).1,0,[],[]⟩,((s.upTo ((pl:Int) - 1)).2.upTo ((pl:Int) - 1)).2)
 else if op=5∨op=23 then (⟨op,(s.upTo ((pl:Int) - 1)).1,0,0,[],[]⟩,(s.upTo ((pl:Int) - 1)).2)
 else (.bare op,failS)
def Ps.term (s:Ps) (pl:Nat):Tm×Ps:=s.next.2.body pl s.next.1.toNat
structure TmAt (w:World) (b:Nat) (t:Tm):Prop where
 lt:b<w.heap.size
 c0:w.cell? ⟨b,0,none⟩=some (.int .i64 t.op)
 c1:w.cell? ⟨b,1,none⟩=some (.int .i64 t.left)
 c2:w.cell? ⟨b,2,none⟩=some (.int .i64 t.right)
 c3:w.cell? ⟨b,3,none⟩=some (.int .i64 t.num)
 c4:w.cell? ⟨b,4,none⟩=some (.string (BS t.str))
 c5:w.cell? ⟨b,5,none⟩=some (.string (BS t.esc))
 fz:∀j,w.frozen? ⟨b,j,none⟩=false
theorem TmAt.same {w w':World} {b:Nat} {t:Tm} (h:TmAt w b t) (hz:b<w'.heap.size) (hb:w'.heap[b]?=w.heap[b]?):TmAt w' b t:=by
 have hc:∀j,w'.cell? ⟨b,j,none⟩=w.cell? ⟨b,j,none⟩:=fun j=>World.cell?_of_block (w:=w) (w':=w') (a:=⟨b,j,none⟩) hb
 have hf:∀j,w'.frozen? ⟨b,j,none⟩=w.frozen? ⟨b,j,none⟩:=fun j=>World.frozen?_of_block (w:=w) (w':=w') (a:=⟨b,j,none⟩) hb
 exact ⟨hz,(hc 0).trans h.c0,(hc 1).trans h.c1,(hc 2).trans h.c2,(hc 3).trans h.c3,(hc 4).trans h.c4,(hc 5).trans h.c5,fun j=>(hf j).trans (h.fz j)⟩
theorem TmAt.kept {w w':World} {b rb:Nat} {t:Tm} (h:TmAt w b t) (hk:Kept rb w w') (hn:¬b=rb):TmAt w' b t:=
 h.same (Nat.lt_of_lt_of_le h.lt hk.size) (hk.block b h.lt hn)
theorem TmAt.alloc {w:World} {b:Nat} {t:Tm} (h:TmAt w b t) (o:Obj):TmAt (w.alloc o) b t:=
 h.same (by have:=h.lt;simp;omega) (((Below.refl w.heap.size w).alloc (Nat.le_refl _) o).block b h.lt)
theorem TmAt.other {w:World} {b:Nat} {t:Tm} (h:TmAt w b t) {p:Addr} (hp:¬p.block=b) (u:Value):TmAt (w.setCell p u) b t:=
 h.same (by have:=h.lt;simp;omega) (Below.heap_setCell w p u b (by omega))
theorem TmAt.new (w:World) (n:Nat) (ty:TypeId):TmAt (w.alloc (.cells #[.int .i64 n,.int .i64 0,.int .i64 0,.int .i64 0,.string ⟨#[]⟩,.string ⟨#[]⟩] ty)) w.heap.size (.bare n):=by
 refine ⟨by simp, ?_, ?_, ?_, ?_, ?_, ?_,fun j=>?_⟩<;>simp [go_sem,Tm.bare]<;>rfl
theorem TmAt.left' {w:World} {b:Nat} {t:Tm} (h:TmAt w b t) (n:Nat):TmAt (w.setCell ⟨b,1,none⟩ (.int .i64 n)) b { t with left:=n }:=by
 obtain ⟨hl,c0,c1,c2,c3,c4,c5,fz⟩:=h
 exact ⟨by simp;omega,by simp [go_sem,c0],by simp [go_sem,c1],by simp [go_sem,c2],by simp [go_sem,c3],by simp [go_sem,c4],by simp [go_sem,c5],fun j=>by simp [go_sem,fz]⟩
theorem TmAt.right' {w:World} {b:Nat} {t:Tm} (h:TmAt w b t) (n:Nat):TmAt (w.setCell ⟨b,2,none⟩ (.int .i64 n)) b { t with right:=n }:=by
 obtain ⟨hl,c0,c1,c2,c3,c4,c5,fz⟩:=h
 exact ⟨by simp;omega,by simp [go_sem,c0],by simp [go_sem,c1],by simp [go_sem,c2],by simp [go_sem,c3],by simp [go_sem,c4],by simp [go_sem,c5],fun j=>by simp [go_sem,fz]⟩
theorem TmAt.esc' {w:World} {b:Nat} {t:Tm} (h:TmAt w b t) (l:List UInt8):TmAt (w.setCell ⟨b,5,none⟩ (.string (BS l))) b { t with esc:=l }:=by
 obtain ⟨hl,c0,c1,c2,c3,c4,c5,fz⟩:=h
 exact ⟨by simp;omega,by simp [go_sem,c0],by simp [go_sem,c1],by simp [go_sem,c2],by simp [go_sem,c3],by simp [go_sem,c4],by simp [go_sem,c5],fun j=>by simp [go_sem,fz]⟩
def qi4 (rb:Nat) (w:World) (r:Tm×Ps) (e:Ending) (w':World):Prop:=e=.returned (tmV r.1)∧PsAt w' rb r.2∧Kept rb w w'
theorem TmAt.full {w:World} {b:Nat} {t0:Tm} (h:TmAt w b t0) (t:Tm) {v0 v1 v2 v3 v4 v5:Value} (h0:v0=.int .i64 t.op) (h1:v1=.int .i64 t.left) (h2:v2=.int .i64 t.right) (h3:v3=.int .i64 t.num) (h4:v4=.string (BS t.str)) (h5:v5=.string (BS t.esc)) :
  TmAt ((((((w.setCell ⟨b,0,none⟩ v0).setCell ⟨b,1,none⟩ v1).setCell ⟨b,2,none⟩ v2).setCell ⟨b,3,none⟩ v3).setCell ⟨b,4,none⟩ v4).setCell ⟨b,5,none⟩ v5) b t:=by
 subst h0 h1 h2 h3 h4 h5
 obtain ⟨hl,c0,c1,c2,c3,c4,c5,fz⟩:=h
 exact ⟨by simp;omega,by simp [go_sem,c0],by simp [go_sem,c1],by simp [go_sem,c2],by simp [go_sem,c3],by simp [go_sem,c4],by simp [go_sem,c5],fun j=>by simp [go_sem,fz]⟩
theorem vt4 {W:World} {A:Nat} {t:Tm} (h:TmAt W A t) (a:Array Value) (ha:a.getD 4 undef=.pointer (some ⟨A,0,none⟩)):(results Tryz.f68 a).run Tryz.prog W=.ok (tmV t) W:=by
 obtain ⟨hl,c0,c1,c2,c3,c4,c5,fz⟩:=h
 have ha':a[4]?.getD undef=.pointer (some ⟨A,0,none⟩):=by simpa using ha
 simp [results,Tryz.results68,go_sem,ha',c0,c1,c2,c3,c4,c5,tmV]
theorem qs3 {rb A:Nat} {w W:World} {t0:Tm} {r:Tm×Ps} {a:Act} {v0 v1 v2 v3 v4 v5:Value} (hA:TmAt W A t0) (hP:PsAt W rb r.2) (hK:Kept rb w W) (hrA:rb<A) (hwA:w.heap.size≤A) (ha:a.tmps.getD 4 undef=.pointer (some ⟨A,0,none⟩)) (hd:a.defers=[])
  (h0:v0=.int .i64 r.1.op) (h1:v1=.int .i64 r.1.left) (h2:v2=.int .i64 r.1.right) (h3:v3=.int .i64 r.1.num) (h4:v4=.string (BS r.1.str)) (h5:v5=.string (BS r.1.esc)) :
  bodyPost Tryz.prog Tryz.f68 (qi4 rb w r) Exit.ret a ((((((W.setCell ⟨A,0,none⟩ v0).setCell ⟨A,1,none⟩ v1).setCell ⟨A,2,none⟩ v2).setCell ⟨A,3,none⟩ v3).setCell ⟨A,4,none⟩ v4).setCell ⟨A,5,none⟩ v5):=
 bodyPost_ret (vt4 (hA.full r.1 h0 h1 h2 h3 h4 h5) _ ha) hd ⟨rfl,((((((hP.later hrA _).later hrA _).later hrA _).later hrA _).later hrA _).later hrA _),((((((hK.later hwA _).later hwA _).later hwA _).later hwA _).later hwA _).later hwA _)⟩
theorem zb8 {rb A:Nat} {w W:World} {t0:Tm} {r:Tm×Ps} {a:Act} {v0 v1 v2 v3 v4 v5:Value} {o:Obj} (hA:TmAt W A t0) (hP:PsAt W rb r.2) (hK:Kept rb w W) (hrA:rb<A) (hwA:w.heap.size≤A) (ha:a.tmps.getD 4 undef=.pointer (some ⟨A,0,none⟩)) (hd:a.defers=[])
  (h0:v0=.int .i64 r.1.op) (h1:v1=.int .i64 r.1.left) (h2:v2=.int .i64 r.1.right) (h3:v3=.int .i64 r.1.num) (h4:v4=.string (BS r.1.str)) (h5:v5=.string (BS r.1.esc)) :
  bodyPost Tryz.prog Tryz.f68 (qi4 rb w r) Exit.ret a (((((((W.setCell ⟨A,0,none⟩ v0).setCell ⟨A,1,none⟩ v1).setCell ⟨A,2,none⟩ v2).setCell ⟨A,3,none⟩ v3).setCell ⟨A,4,none⟩ v4).setCell ⟨A,5,none⟩ v5).alloc o):=
 bodyPost_ret (vt4 ((hA.full r.1 h0 h1 h2 h3 h4 h5).alloc o) _ ha) hd ⟨rfl,((((((hP.later hrA _).later hrA _).later hrA _).later hrA _).later hrA _).later hrA _).alloc o,((((((hK.later hwA _).later hwA _).later hwA _).later hwA _).later hwA _).later hwA _).alloc o⟩
end
end Go.Proofs.YtfkcaldjphakpabGreatDoor
