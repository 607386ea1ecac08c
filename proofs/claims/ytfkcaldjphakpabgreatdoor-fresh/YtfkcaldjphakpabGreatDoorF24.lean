/- Program.Run: what it keeps in memory. A program as bytes. Program.Run of any program that may be run. find; Live, Nodes, New. -/
import Derived.Test.YtfkcaldjphakpabGreatDoorWPr1
import Derived.Test.YtfkcaldjphakpabGreatDoorF19
import Derived.Test.YtfkcaldjphakpabGreatDoorF25
import Derived.Test.YtfkcaldjphakpabGreatDoorF29
import Derived.Test.YtfkcaldjphakpabGreatDoorWVal2
import Derived.Deep.RegionWith
import Derived.Test.YtfkcaldjphakpabGreatDoorF26
import Derived.Test.YtfkcaldjphakpabGreatDoorF20
set_option maxHeartbeats 2000000
set_option maxRecDepth 100000
namespace Go.Proofs.YtfkcaldjphakpabGreatDoor
open Go.RowKit
section
def qp3 (ps:List Pr) (ts:List Tm):Nat→List V
 | 0=>[]
 | k+1=>qp3 ps ts k++[ofT ps (qp3 ps ts k) (ts.getD k (.bare 0))]
def jy2 (vs:List V) (rs:List Nat):Nat→List Nat
 | 0=>[]
 | k+1=>jy2 vs rs k++(if vs.getD (rs.getD k 0) nV=bV true then [k] else [])
def metR (ps:List Pr) (ts:List Tm) (rs:List Nat):List Nat:=jy2 (qp3 ps ts ts.length) rs rs.length
theorem qp4 (ps:List Pr) (ts:List Tm) (k:Nat):(qp3 ps ts k).length=k:=by
 induction k with
 | zero=>rfl
 | succ k ih=>rw [qp3,List.length_append,ih];rfl
theorem vk4 (vs:List V) (rs:List Nat) (k:Nat):(jy2 vs rs k).length≤k:=by
 induction k with
 | zero=>exact Nat.le_refl _
 | succ k ih=>rw [jy2,List.length_append];split<;>simp<;>omega
theorem metK_lt (vs:List V) (rs:List Nat) (k:Nat):∀x∈jy2 vs rs k,x<k:=by
 induction k with
 | zero=>intro x hx;simp [jy2] at hx
 | succ k ih=>
  intro x hx
  rw [jy2,List.mem_append] at hx
  rcases hx with hx|hx
  ·have:=ih x hx;omega
  ·split at hx
   ·simp at hx;omega
   ·simp at hx
def Gv (v:V):Prop:=Rng v.num∧Sh v
theorem gv_n:Gv nV:=⟨qz8,vq1⟩
theorem ofT_good {ps:List Pr} (h:vz3 ps) (hs:EvSh ps) {vs:List V} {k:Nat} {t:Tm} (ht:FitsT k t):Gv (ofT ps vs t):=by
 unfold ofT
 split
 ·refine ⟨js8 h _, ?_⟩
  unfold qz5
  split
  ·rename_i p hp
   exact hs p (List.mem_of_find?_eq_some hp)
  ·exact vq1
 split
 ·exact ⟨ht.num,sh_i _⟩
 split
 ·exact ⟨rng0,by have:=ht.str;show t.str.length≤1000;omega⟩
 split
 ·exact ⟨vb0 _,vq0 _⟩
 split
 ·unfold vq2
  exact ⟨qi9 (vb0 _) qz8,qa9 (vq0 _) vq1⟩
 ·exact ⟨js9 _ _ _,sh_join _ _ _⟩
theorem zc3 {ps:List Pr} (h:vz3 ps) (hs:EvSh ps) {ts:List Tm} (hf:∀i t,ts[i]?=some t→FitsT i t) (k:Nat) (hk:k≤ts.length):∀i,Gv ((qp3 ps ts k).getD i nV):=by
 induction k with
 | zero=>intro i;exact gv_n
 | succ k ih=>
  intro i
  have ih:=ih (by omega) i
  have hkl:ts[k]?=some ts[k]:=List.getElem?_eq_getElem (by omega)
  rw [qp3,List.getD_eq_getElem?_getD]
  rw [List.getD_eq_getElem?_getD] at ih
  rcases Nat.lt_or_ge i k with hi|hi
  ·rw [List.getElem?_append_left (by rw [qp4];exact hi)]
   exact ih
  ·rw [List.getElem?_append_right (by rw [qp4];exact hi),qp4]
   rcases Nat.eq_zero_or_pos (i - k) with h0|h0
   ·rw [h0]
    show Gv (ofT _ _ _)
    rw [List.getD_eq_getElem?_getD,hkl]
    exact ofT_good h hs (hf k _ hkl)
   ·rw [List.getElem?_eq_none (by simp;omega)]
    exact gv_n
theorem tof_any {w:World} {ps:List Pr} {ev:Value} {vb n c k:Nat} {vs:List V} {t:Tm} (hev:EvArg w ev ps) (hv:ValsAt w vb n vs) (hlt:vb<w.heap.size) (hg:∀i,Gv (vs.getD i nV)) (ht:FitsT k t) (hk:k≤n):qx7 w ps ev (.slice (some ⟨vb,0,none⟩) n c) vs t:=by
 have hsl:=hev.slice
 by_cases h0:t.op=0
 ·exact tof_0 w ps ev _ n c vs t hev h0
 by_cases h1:t.op=1
 ·exact tof_1 w ps ev _ n c vs t hev h1
 by_cases h2:t.op=2
 ·exact tof_2 w ps ev _ n c vs t hev h2
 by_cases h3:t.op=3
 ·exact tof_3 w ps ev _ n c vs t hev h3
 by_cases h4:t.op=4
 ·exact tof_4 w ps ev _ n c vs t hev h4
 have hsd:=ht.sides (by omega)
 by_cases h22:t.op=22
 ·exact tof_22 w ps ev vb n c vs t hsl hv hlt (by omega) ht.str (hg _).2 h22
 ·exact tof_x w ps ev vb n c vs t hsl hv hlt (by omega) (by omega) (hg _).1 (hg _).1 h0 h1 h2 h3 h4 h22
theorem jx4:(Tryz.prog.info? 118).map (fun i=>(i.zero,i.size,i.bytes))=some (some (.agg #[.int .i64 0,.int .i64 0,.string ⟨#[]⟩]),3,32):=by kernel_rfl
structure RunAt (w wr:World) (vb n:Nat) (vs:List V):Prop where
 vals:ValsAt wr vb n vs
 fz:∀j,wr.frozen? ⟨vb,j,none⟩=false
 ge:w.heap.size≤vb
 lt:vb<wr.heap.size
 bel:Below w.heap.size w wr
theorem RunAt.next {w wr w':World} {vb n:Nat} {vs:List V} (h:RunAt w wr vb n vs) (hb:Below wr.heap.size wr w'):RunAt w w' vb n vs:=
 ⟨h.vals.below hb h.lt,fun j=>(hb.frozen (p:=⟨vb,j,none⟩) h.lt).trans (h.fz j),h.ge,Nat.lt_of_lt_of_le h.lt hb.size,v8 h.bel hb⟩
theorem RunAt.made {w w1:World} {n:Nat} (h:w1.ownsRow w.heap.size 118 3 (.slice (some ⟨w.heap.size,0,none⟩) n n) n (madeCells (Value.agg #[.int .i64 0,.int .i64 0,.string ⟨#[]⟩]).cells (n * 3)).toList) (hg:w.grownBy w1 none):RunAt w w1 w.heap.size n []:=by
 have hl:=h.lt w.heap.size rfl
 refine ⟨fun i hi=>?_,fun j=>?_,Nat.le_refl _,hl.2,⟨hg.os,hg.tape,hg.output,hg.size,fun k hk=>hg.block k hk (by simp)⟩⟩
 ·have hc:=h.cells (g:=w.heap.size) rfl
  have hadd:∀j,(⟨w.heap.size,0,none⟩:Addr).add j=⟨w.heap.size,j,none⟩:=fun j=>by unfold Addr.add;split<;>simp_all
  have hm:∀j,j<3→(madeCells (Value.agg #[.int .i64 0,.int .i64 0,.string ⟨#[]⟩]).cells (n * 3)).toList[i * 3+j]?=([.int .i64 0,.int .i64 0,.string ⟨#[]⟩]:List Value)[j]?:=by
   intro j hj
   have h1:i * 3+j<n * 3:=by omega
   have h2:(i * 3+j) % 3=j:=by omega
   have hcs:(Value.agg #[.int .i64 0,.int .i64 0,.string ⟨#[]⟩]).cells=#[.int .i64 0,.int .i64 0,.string ⟨#[]⟩]:=by rfl
   rw [hcs]
   simp [madeCells,h1,h2]
   match j,hj with
   | 0,_=>rfl
   | 1,_=>rfl
   | 2,_=>rfl
  refine ⟨?_, ?_, ?_⟩
  ·have:=hc (i * 3+0) _ (hm 0 (by decide));rwa [hadd] at this
  ·have:=hc (i * 3+1) _ (hm 1 (by decide));rwa [hadd] at this
  ·have:=hc (i * 3+2) _ (hm 2 (by decide));rwa [hadd] at this
 ·rcases h.2 with ⟨hv,_⟩|⟨g,cap,cur,hv,_,hgg,_⟩
  ·simp at hv
  ·simp at hv
   obtain ⟨rfl,_⟩:=hv
   simp [World.frozen?,hgg]
theorem RunAt.store {w wr:World} {vb n k:Nat} {vs:List V} (h:RunAt w wr vb n vs) (hl:vs.length=k) (hk:k<n) (x:V) :
  RunAt w (((wr.setCell ⟨vb,k * 3,none⟩ (.int .i64 x.kind)).setCell ⟨vb,k * 3+1,none⟩ (.int .i64 x.num)).setCell ⟨vb,k * 3+2,none⟩ (.string (BS x.str))) vb n (vs++[x]):=by
 have hge:=h.ge
 refine ⟨fun i hi=>?_,fun j=>by simp [go_sem,h.fz],hge,by have:=h.lt;simpa using this,((h.bel.setCell (by exact hge) _).setCell (by exact hge) _).setCell (by exact hge) _⟩
 obtain ⟨a0,a1,a2⟩:=h.vals k hk
 by_cases he:i=k
 ·subst he
  have hx:(vs++[x]).getD i nV=x:=by rw [List.getD_eq_getElem?_getD,List.getElem?_append_right (by omega),hl,Nat.sub_self];rfl
  rw [hx]
  refine ⟨?_, ?_, ?_⟩<;>simp [go_sem,a0,a1,a2]
 ·have hx:(vs++[x]).getD i nV=vs.getD i nV:=by
   rw [List.getD_eq_getElem?_getD,List.getD_eq_getElem?_getD]
   rcases Nat.lt_or_ge i k with h1|h1
   ·rw [List.getElem?_append_left (by omega)]
   ·rw [List.getElem?_eq_none (by simp;omega),List.getElem?_eq_none (by omega)]
  rw [hx]
  obtain ⟨b0,b1,b2⟩:=h.vals i hi
  have e00:¬i * 3=k * 3:=by omega
  have e01:¬i * 3=k * 3+1:=by omega
  have e02:¬i * 3=k * 3+2:=by omega
  have e10:¬i * 3+1=k * 3:=by omega
  have e11:¬i * 3+1=k * 3+1:=by omega
  have e12:¬i * 3+1=k * 3+2:=by omega
  have e20:¬i * 3+2=k * 3:=by omega
  have e21:¬i * 3+2=k * 3+1:=by omega
  have e22:¬i * 3+2=k * 3+2:=by omega
  refine ⟨?_, ?_, ?_⟩
  ·simp [go_sem,b0]
  ·simp [go_sem,b1]
  ·simp [go_sem,b2]
theorem TsAt.cells {w:World} {base:Nat} {v:Value} {ts:List Tm} (h:TsAt w base v ts):∃a c,v=.slice a ts.length c∧∀(k:Nat) (t:Tm),ts[k]?=some t→∃g,a=some ⟨g,0,none⟩∧g<w.heap.size ∧
  w.cell? ⟨g,k * 6,none⟩=some (.int .i64 t.op)∧w.cell? ⟨g,k * 6+1,none⟩=some (.int .i64 t.left)∧w.cell? ⟨g,k * 6+2,none⟩=some (.int .i64 t.right)∧w.cell? ⟨g,k * 6+3,none⟩=some (.int .i64 t.num)∧w.cell? ⟨g,k * 6+4,none⟩=some (.string (BS t.str))∧w.cell? ⟨g,k * 6+5,none⟩=some (.string (BS t.esc)):=by
 have h0:=h
 rcases h.2 with ⟨rfl,hn⟩|⟨g,cap,cur,rfl,hbg,hgg,_⟩
 ·refine ⟨none,0,by rw [hn],fun k t hk=>?_⟩
  have:=(List.getElem?_eq_some_iff.1 hk).1
  omega
 ·refine ⟨_,cap,rfl,fun k t hk=>⟨g,rfl,(Array.getElem?_eq_some_iff.1 hgg).1, ?_⟩⟩
  have hadd:∀j,(⟨g,0,none⟩:Addr).add j=⟨g,j,none⟩:=fun j=>by unfold Addr.add;split<;>simp_all
  have hc:∀j u,(qs4 t)[j]?=some u→w.cell? ⟨g,k * 6+j,none⟩=some u:=fun j u hj=>by
   have:=World.ownsRow.cells h0 (g:=g) rfl (k * 6+j) u (je8 hk hj)
   rwa [hadd] at this
  exact ⟨hc 0 _ rfl,hc 1 _ rfl,hc 2 _ rfl,hc 3 _ rfl,hc 4 _ rfl,hc 5 _ rfl⟩
theorem IsAt.cells {w:World} {base:Nat} {v:Value} {l:List Nat} (h:IsAt w base v l):∃a c,v=.slice a l.length c∧∀(k:Nat) (x:Nat),l[k]?=some x→∃g,a=some ⟨g,0,none⟩∧g<w.heap.size∧w.cell? ⟨g,k,none⟩=some (.int .i64 x):=by
 have h0:=h
 rcases h.2 with ⟨rfl,hn⟩|⟨g,cap,cur,rfl,hbg,hgg,_⟩
 ·refine ⟨none,0,by rw [hn],fun k t hk=>?_⟩
  have:=(List.getElem?_eq_some_iff.1 hk).1
  omega
 ·refine ⟨_,cap,rfl,fun k x hk=>⟨g,rfl,(Array.getElem?_eq_some_iff.1 hgg).1, ?_⟩⟩
  have hadd:∀j,(⟨g,0,none⟩:Addr).add j=⟨g,j,none⟩:=fun j=>by unfold Addr.add;split<;>simp_all
  have:=World.ownsRow.cells h0 (g:=g) rfl k (.int .i64 x) (by simp [qj3,hk])
  rwa [hadd] at this
end
section
attribute [local go_sem ↓] qc3
def vi7 (t:Tm):Prop:=∀(base:Nat) (v:Value) (l:List UInt8) (W:World),OB W base v l→base≤W.heap.size→l.length≤800000→Calls Tryz.prog 63 #[tmV t,v] W (qs5 base W (l++encT t))
theorem vy8 (t:Tm) (ht:SmallT t) (h:t.op∈[0,1,2,3,4,5,6,7,8,10,11,16,17,18,19,23]):vi7 t:=by
 intro base v l W h1 h2 h3
 simp only [List.mem_cons,List.not_mem_nil,or_false] at h
 rcases h with h|h|h|h|h|h|h|h|h|h|h|h|h|h|h|h
 ·exact write_0 base v l t W h1 h2 h3 ht h _ fun _ _ h=>h
 ·exact write_1 base v l t W h1 h2 h3 ht h _ fun _ _ h=>h
 ·exact write_2 base v l t W h1 h2 h3 ht h _ fun _ _ h=>h
 ·exact write_c base v l t W h1 h2 h3 ht (by simp [h]) _ fun _ _ h=>h
 ·exact write_c base v l t W h1 h2 h3 ht (by simp [h]) _ fun _ _ h=>h
 ·exact write_5 base v l t W h1 h2 h3 ht h _ fun _ _ h=>h
 ·exact qu0 base v l t W h1 h2 h3 ht (by simp [h]) _ fun _ _ h=>h
 ·exact qu0 base v l t W h1 h2 h3 ht (by simp [h]) _ fun _ _ h=>h
 ·exact qu0 base v l t W h1 h2 h3 ht (by simp [h]) _ fun _ _ h=>h
 ·exact qu0 base v l t W h1 h2 h3 ht (by simp [h]) _ fun _ _ h=>h
 ·exact qu0 base v l t W h1 h2 h3 ht (by simp [h]) _ fun _ _ h=>h
 ·exact qu0 base v l t W h1 h2 h3 ht (by simp [h]) _ fun _ _ h=>h
 ·exact qu0 base v l t W h1 h2 h3 ht (by simp [h]) _ fun _ _ h=>h
 ·exact qu0 base v l t W h1 h2 h3 ht (by simp [h]) _ fun _ _ h=>h
 ·exact qu0 base v l t W h1 h2 h3 ht (by simp [h]) _ fun _ _ h=>h
 ·exact write_23 base v l t W h1 h2 h3 ht h _ fun _ _ h=>h
theorem vy9 (t:Tm) (ht:SmallT t) (h:t.op=0∨t.op=1∨t.op=10):vi7 t:=by
 intro base v l W h1 h2 h3
 rcases h with h|h|h
 ·exact write_0 base v l t W h1 h2 h3 ht h _ fun _ _ h=>h
 ·exact write_1 base v l t W h1 h2 h3 ht h _ fun _ _ h=>h
 ·exact qu0 base v l t W h1 h2 h3 ht (by simp [h]) _ fun _ _ h=>h
def jb2 (hd:List UInt8) (ts:List Tm):Nat→List UInt8
 | 0=>hd
 | k+1=>jb2 hd ts k++encT (ts.getD k (.bare 3))
def jv8 (hd:List UInt8) (rs:List Nat):Nat→List UInt8
 | 0=>hd
 | k+1=>jv8 hd rs k++[UInt8.ofNat (rs.getD k 0)]
def qr3 (ts:List Tm) (rs:List Nat):List UInt8:=jv8 (jb2 [UInt8.ofNat ts.length,UInt8.ofNat rs.length] ts ts.length) rs rs.length
theorem vk3 (s:List UInt8):(vg2 s).length=s.length+1:=rfl
theorem jh2 (t:Tm) (ht:SmallT t):(encT t).length≤1000:=by
 have h1:=ht.str
 have h2:=ht.esc
 unfold encT
 split
 ·simp [qi6]
 split
 ·simp [vk3];omega
 split
 ·simp [vk3];omega
 split
 ·simp
 split<;>simp
theorem jh0 (hd:List UInt8) (ts:List Tm) (h:∀t∈ts,SmallT t) (k:Nat):(jb2 hd ts k).length≤hd.length+k * 1000:=by
 induction k with
 | zero=>simp [jb2]
 | succ k ih=>
  rw [jb2,List.length_append]
  have:(encT (ts.getD k (.bare 3))).length≤1000:=by
   apply jh2
   rw [List.getD_eq_getElem?_getD]
   cases hk:ts[k]? with
   | none=>exact ⟨Nat.zero_le _,Nat.zero_le _,Nat.zero_le _,Nat.zero_le _⟩
   | some t=>exact h t (List.mem_of_getElem? hk)
  omega
theorem jh1 (hd:List UInt8) (rs:List Nat) (k:Nat):(jv8 hd rs k).length=hd.length+k:=by
 induction k with
 | zero=>rfl
 | succ k ih=>rw [jv8,List.length_append,ih,List.length_singleton];omega
theorem OB.below {B:Nat} {w w':World} {base:Nat} {v:Value} {l:List UInt8} (h:OB w base v l) (hb:Below B w w') (hB:w.heap.size≤B):OB w' base v l:=qf0 h hb hB
theorem jz1 (pb o:Nat) (ts:List Tm) (rs:List Nat) (W:World) (hp:ProgAt W pb o ts rs) (h80:ts.length≤200) (h8:rs.length≤200) (hsm:∀t∈ts,SmallT t) (hw:∀t∈ts,vi7 t) (hrs:∀r∈rs,r≤255) (Q:Ending→World→Prop) (hQ:∀e w',qs5 W.heap.size W (qr3 ts rs) e w'→Q e w') :
  Calls Tryz.prog 39 #[.pointer (some ⟨pb,o,none⟩)] W Q:=by
 have HQ:=v7 hQ
 clear hQ
 unfold qr3 at HQ
 obtain ⟨plt,⟨tv,tb,c0,hts⟩,rv,rb,c1,hrs'⟩:=hp
 obtain ⟨ta,tc,rfl,hTC⟩:=hts.cells
 obtain ⟨ra,rc,rfl,hRC⟩:=hrs'.cells
 have HTC:Hid _:=v7 hTC
 have HRC:Hid _:=v7 hRC
 have HW:=v7 hw
 have HRS:=v7 hrs
 have HLN:Hid _:=v7 (jh0 [UInt8.ofNat ts.length,UInt8.ofNat rs.length] ts hsm)
 clear hTC hRC hts hrs' hw hrs hsm
 obtain ⟨n,hn⟩:∃n,n=ts.length:=⟨_,rfl⟩
 obtain ⟨m,hm⟩:∃m,m=rs.length:=⟨_,rfl⟩
 have HN:=v7 hn
 have HM:=v7 hm
 rw [←hn] at c0 h80
 rw [←hm] at c1 h8
 rw [←hn,←hm] at HQ HLN
 clear hn hm
 have n0:(0:Int)≤(n:Int):=by omega
 have n1:(n:Int)<256:=by omega
 have m0:(0:Int)≤(m:Int):=by omega
 have m1:(m:Int)<256:=by omega
 have O0:Hid (OB (W.alloc (.cells #[.int .u8 n,.int .u8 m] 5)).drew W.heap.size (.slice (some ⟨W.heap.size,0,none⟩) 2 2) [UInt8.ofNat n,UInt8.ofNat m]):=v7 (by
  refine ⟨rfl,.inr ⟨W.heap.size,2,#[.int .u8 n,.int .u8 m],rfl,Nat.le_refl _,heap_alloc_new W _,Nat.le_refl _,by decide,rfl, ?_⟩⟩
  show [Value.int .u8 n,Value.int .u8 m]=[Value.int .u8 ((UInt8.ofNat n).toNat:Int),Value.int .u8 ((UInt8.ofNat m).toNat:Int)]
  rw [←vr2 (by omega),←vr2 (by omega)])
 have B0:Hid (Below W.heap.size W (W.alloc (.cells #[.int .u8 n,.int .u8 m] 5)).drew):=v7 ((Below.refl _ _).alloc (Nat.le_refl _) _).drew
 have HHD:Hid ([UInt8.ofNat n,UInt8.ofNat m].length=2):=v7 rfl
 generalize [UInt8.ofNat n,UInt8.ofNat m]=hd at *
 go_enter Tryz.func39,Tryz.ntmps39
 go_wp2_with fail
 go_region
 all_goals go_wp2_with fail
 go_loopw [3,26] (fun u i wr=>∃k:Nat,k≤n∧i=.int .i64 k∧Hid (OB wr W.heap.size u (jb2 hd ts k))∧Hid (Below W.heap.size W wr)) (fun _ i _=>n - (intOf i).toNat)
 case atStart=>exact ⟨0,Nat.zero_le _,rfl,O0,B0⟩
 case round=>
  obtain ⟨k,hk,rfl,HO,HB⟩:=hrel
  have hlen:(jb2 hd ts k).length≤700000:=by have h1:=q9 HLN k;have h2:=q9 HHD;omega
  by_cases hlt:k<n
  ·obtain ⟨t,ht⟩:∃t,ts[k]?=some t:=⟨_,List.getElem?_eq_getElem (by have:=q9 HN;omega)⟩
   obtain ⟨g,rfl,glt,t0,t1,t2,t3,t4,t5⟩:=q9 HTC k t ht
   have WT:Hid (∀(u:Value) (U:World),OB U W.heap.size u (jb2 hd ts k)→W.heap.size≤U.heap.size→Calls Tryz.prog 63 #[tmV t,u] U (qs5 W.heap.size U (jb2 hd ts k++encT t))):=v7 fun u U h1 h2=>q9 HW t (List.mem_of_getElem? ht) _ u _ U h1 h2 (by omega)
   have hS:Hid (jb2 hd ts (k+1)=jb2 hd ts k++encT t):=v7 (by rw [jb2,List.getD_eq_getElem?_getD,ht];rfl)
   obtain ⟨L,hL⟩:∃L,jb2 hd ts k=L:=⟨_,rfl⟩
   rw [hL] at HO WT hS hlen
   obtain ⟨hcB,hfB⟩:=j6 (q9 HB)
   rw [←hcB g (k * 6) glt] at t0
   rw [←hcB g (k * 6+1) glt] at t1
   rw [←hcB g (k * 6+2) glt] at t2
   rw [←hcB g (k * 6+3) glt] at t3
   rw [←hcB g (k * 6+4) glt] at t4
   rw [←hcB g (k * 6+5) glt] at t5
   have hbz:=(q9 HB).size
   have hzg:g<wr.heap.size:=by omega
   have hk0:(0:Int)≤(k:Int):=by omega
   have hk1:(k:Int)<(n:Int):=by omega
   have O1:=v7 (fun o=>World.ownsRow.alloc (q9 HO) o)
   obtain ⟨a',c',rfl⟩:=(q9 HO).form
   unfold tmV at WT
   clear hcB hfB ht hL hlen
   go_wp2_with (go_at_call 63;refine (q9 WT _ _ (q9 O1 _) (by simp;omega)).mono ?_;rintro e w2 ⟨v2,rfl,ho2,hb2⟩;have HO2:=v7 ho2;have HB2:=v7 (((q9 HB).alloc hbz _).trans hb2);clear ho2 hb2)
   exact ⟨⟨k+1,by omega,rfl,v7 (by rw [q9 hS];exact q9 HO2),HB2⟩,by simp [intOf];omega⟩
  ·have:k=n:=by omega
   subst this
   have d1:wr.cell? ⟨pb,o+1,none⟩=some (.slice ra m rc):=((q9 HB).cell (p:=⟨pb,o+1,none⟩) plt).trans c1
   generalize jb2 hd ts k=L at *
   go_wp2_with fail
   go_loopw [3,39] (fun u i wr=>∃j:Nat,j≤m∧i=.int .i64 j∧Hid (OB wr W.heap.size u (jv8 L rs j))∧Hid (Below W.heap.size W wr)) (fun _ i _=>m - (intOf i).toNat)
   case atStart=>exact ⟨0,Nat.zero_le _,rfl,HO,HB⟩
   case round=>
    obtain ⟨j,hj,rfl,HO',HB'⟩:=hrel
    by_cases hlt2:j<m
    ·obtain ⟨r,hr⟩:∃r,rs[j]?=some r:=⟨_,List.getElem?_eq_getElem (by have:=q9 HM;omega)⟩
     obtain ⟨g,rfl,glt,t0⟩:=q9 HRC j r hr
     have hr255:r≤255:=q9 HRS r (List.mem_of_getElem? hr)
     have hS:Hid (jv8 L rs (j+1)=jv8 L rs j++[UInt8.ofNat r]):=v7 (by rw [jv8,List.getD_eq_getElem?_getD,hr];rfl)
     have hlen2:(jv8 L rs j).length≤1000000:=by rw [jh1];omega
     obtain ⟨L2,hL2⟩:∃L2,jv8 L rs j=L2:=⟨_,rfl⟩
     rw [hL2] at HO' hS hlen2
     obtain ⟨hcB,hfB⟩:=j6 (q9 HB')
     rw [←hcB g j glt] at t0
     have hbz:=(q9 HB').size
     have hzg:g<wr.heap.size:=by omega
     have hj0:(0:Int)≤(j:Int):=by omega
     have hj1:(j:Int)<(m:Int):=by omega
     have hr0:(0:Int)≤(r:Int):=by omega
     have hr1:(r:Int)<256:=by omega
     obtain ⟨g5,cap5,w5,hap,HO5,HB5⟩:=OB.app (q9 HO') hbz (UInt8.ofNat r) (r:Int) (vr2 hr255) hlen2 36 _ rfl rfl
     have HB6:=v7 ((q9 HB').trans (q9 HB5))
     obtain ⟨a',c',rfl⟩:=OB.form (q9 HO')
     clear hcB hfB hr hL2 hlen2 HB5
     go_wp2_with fail
     exact ⟨⟨j+1,by omega,rfl,v7 (by rw [q9 hS];exact q9 HO5),HB6⟩,by simp [intOf];omega⟩
    ·have:j=m:=by omega
     subst this
     go_wp2_with fail
     exact q9 HQ _ _ ⟨_,rfl,q9 HO',q9 HB'⟩
end
section
attribute [local go_sem ↓] qc3
def RunEnds (w:World) (l:List Nat) (e:Ending) (w':World):Prop:=∃v,e=.returned v∧IsAt w' w.heap.size v l∧Below w.heap.size w w'
theorem IsAt.mono {w:World} {lo hi:Nat} {v:Value} {l:List Nat} (h:IsAt w hi v l) (hl:lo≤hi):IsAt w lo v l:=by
 refine ⟨h.1, ?_⟩
 rcases h.2 with hn|⟨g,cap,cur,rfl,hbg,rest⟩
 ·exact .inl hn
 ·exact .inr ⟨g,cap,cur,rfl,by omega,rest⟩
theorem IsAt.app {W:World} {base:Nat} {v:Value} {l:List Nat} (h:IsAt W base v l) (hb:base≤W.heap.size) (x:Nat) (hn:l.length≤1000) (ty:TypeId) :
  ∃g cap w5,(qh7 #[29,29] ty #[v,.slice (some ⟨W.heap.size,0,none⟩) 1 1]).run Tryz.prog (W.alloc (.cells #[.int .i64 x] 3))=.ok (.slice (some ⟨g,0,none⟩) (l.length+1) cap) w5 ∧
   Hid (IsAt w5 base (.slice (some ⟨g,0,none⟩) (l.length+1) cap) (l++[x]))∧Hid (Below base W w5):=by
 obtain ⟨i0,hi,hz0,hz1,hz2⟩:=info_parts qu2
 have ha:=World.ownsRow.alloc h (.cells #[.int .i64 x] 3)
 obtain ⟨g,cap,w5,hr,hown,hgrow,hat,_⟩:=run_append_lies (P:=Tryz.prog) (W.alloc (.cells #[.int .i64 x] 3)) 29 ty base 3 i0 _ 1 8 Tryz.underlying29 hi hz0 hz1 hz2 rfl (by omega) v l.length (qj3 l) ha
  ⟨W.heap.size,0,none⟩ 1 1 [.int .i64 x] rfl (World.news_of_block (cs:=#[.int .i64 x]) (t:=3) (fr:=(0,0)) (heap_alloc_new W _)) (by simp [Value.oneCell']) (by omega) (by unfold maxLen;omega) (by omega) (by simp;omega) _ rfl
 refine ⟨g,cap,w5,hr,v7 ?_,v7 ?_⟩
 ·show World.ownsRow _ _ _ _ _ _ _
  rw [List.length_append,List.length_singleton,qj3,List.map_append]
  exact hown
 ·exact Go.RowKit.Below.grown (((Below.refl base W).alloc hb _)) hgrow (by simp;omega) (fun k hk=>(ha.lt k hk).1)
theorem IsAt.app' {W W':World} {base:Nat} {v:Value} {l:List Nat} (h:IsAt W base v l) (hb:base≤W.heap.size) (x:Nat) (hn:l.length≤1000) (ty:TypeId) (H:Nat) (hH:W.heap.size=H) (hW:W'=W.alloc (.cells #[.int .i64 x] 3)) :
  ∃g cap w5,(qh7 #[29,29] ty #[v,.slice (some ⟨H,0,none⟩) 1 1]).run Tryz.prog W'=.ok (.slice (some ⟨g,0,none⟩) (l.length+1) cap) w5 ∧
   Hid (IsAt w5 base (.slice (some ⟨g,0,none⟩) (l.length+1) cap) (l++[x]))∧Hid (Below base W w5):=by
 subst hH hW
 exact h.app hb x hn ty
theorem RunAt.nextB {w wr w':World} {vb n B:Nat} {vs:List V} (h:RunAt w wr vb n vs) (hb:Below B wr w') (hB:vb<B):RunAt w w' vb n vs:=
 ⟨h.vals.below hb hB,fun j=>(hb.frozen (p:=⟨vb,j,none⟩) hB).trans (h.fz j),h.ge,Nat.lt_of_lt_of_le h.lt hb.size,h.bel.trans (hb.mono (by have:=h.ge;omega))⟩
theorem IsAt.below {B:Nat} {w w':World} {base:Nat} {v:Value} {l:List Nat} (h:IsAt w base v l) (hb:Below B w w') (hB:w.heap.size≤B):IsAt w' base v l:=qf0 h hb hB
theorem qq1 (w:World) (o:Obj):Below w.heap.size w (w.alloc o):=(Below.refl _ _).alloc (Nat.le_refl _) o
theorem js7 (ps:List Pr) (ev:Value) (pb o:Nat) (ts:List Tm) (rs:List Nat) (w:World) (hp:ProgAt w pb o ts rs) (hg:Prg ts rs) (hev:EvArg w ev ps) (hr:vz3 ps) (hs:EvSh ps) :
  Calls Tryz.prog 42 #[.pointer (some ⟨pb,o,none⟩),ev] w (RunEnds w (metR ps ts rs)):=by
 obtain ⟨i0,hi,hz0,hz1,hz2⟩:=info_parts jx4
 obtain ⟨i1,hj,hy0,hy1,hy2⟩:=info_parts qu2
 obtain ⟨plt,⟨tv,tb,c0,hts⟩,rv,rb,c1,hrs⟩:=hp
 have HTS:=v7 hts
 have HRS:=v7 hrs
 have HEV:=v7 hev
 obtain ⟨ea,en,ec,rfl⟩:=hev.slice
 obtain ⟨ta,tc,rfl,hTC⟩:=hts.cells
 obtain ⟨ra,rc,rfl,hRC⟩:=hrs.cells
 have HTC:Hid _:=v7 hTC
 have HRC:Hid _:=v7 hRC
 have HG:=v7 hg
 have HVG:Hid (∀k,k≤ts.length→∀i,Gv ((qp3 ps ts k).getD i nV)):=v7 fun k hk=>zc3 hr hs hg.fits k hk
 have h80:=hg.terms
 have h8:=hg.roots
 clear hTC hRC hts hrs hev hg hr hs
 obtain ⟨n,hn⟩:∃n,n=ts.length:=⟨_,rfl⟩
 obtain ⟨m,hm⟩:∃m,m=rs.length:=⟨_,rfl⟩
 have HN:Hid (n=ts.length):=v7 hn
 have HM:Hid (m=rs.length):=v7 hm
 rw [←hn] at c0 h80
 rw [←hm] at c1 h8
 obtain ⟨R,hR⟩:∃R,metR ps ts rs=R:=⟨_,rfl⟩
 have HR:Hid (R=jy2 (qp3 ps ts n) rs m):=v7 (by rw [hn,hm,←hR];rfl)
 rw [hR]
 clear hn hm hR
 have nv:¬pb=w.heap.size:=by omega
 go_enter Tryz.func42,Tryz.ntmps42
 go_wp2_with (at_make;refine wpList_make_full _ rfl _ _ 151 rfl w.heap.size 118 i0 _ 3 Tryz.underlying151 hi hz0 hz1 .i64 .i64 _ _ n rfl rfl rfl rfl (by rw [hz2];omega) (by unfold maxLen;omega) (Nat.le_refl _) ?_;intro w1 hown1 hgrow1;have R0:=v7 (RunAt.made hown1 hgrow1);have d0:=hgrow1.cell c0 (by simp);have d1:=hgrow1.cell c1 (by simp);clear hown1 hgrow1)
 go_loopw [22] (fun i wr=>∃k:Nat,k≤n∧i=.int .i64 k∧Hid (RunAt w wr w.heap.size n (qp3 ps ts k))) (fun i _=>n - (intOf i).toNat)
 case atStart=>exact ⟨0,Nat.zero_le _,rfl,R0⟩
 case round=>
  obtain ⟨k,hk,rfl,HL⟩:=hrel
  by_cases hlt:k<n
  ·obtain ⟨t,ht⟩:∃t,ts[k]?=some t:=⟨_,List.getElem?_eq_getElem (by have:=q9 HN;omega)⟩
   obtain ⟨g,rfl,glt,t0,t1,t2,t3,t4,t5⟩:=q9 HTC k t ht
   have hB:=(q9 HL).bel
   obtain ⟨hcB,hfB⟩:=j6 hB
   rw [←hcB g (k * 6) glt] at t0
   rw [←hcB g (k * 6+1) glt] at t1
   rw [←hcB g (k * 6+2) glt] at t2
   rw [←hcB g (k * 6+3) glt] at t3
   rw [←hcB g (k * 6+4) glt] at t4
   rw [←hcB g (k * 6+5) glt] at t5
   have hS:Hid (qp3 ps ts (k+1)=qp3 ps ts k++[ofT ps (qp3 ps ts k) t]):=v7 (by rw [qp3,List.getD_eq_getElem?_getD,ht];rfl)
   have hVL:Hid ((qp3 ps ts k).length=k):=v7 (qp4 _ _ _)
   have hzr:=(q9 HL).lt
   have hzg:g<wr.heap.size:=by have:=hB.size;omega
   have hk0:(0:Int)≤(k:Int):=by omega
   have hk1:(k:Int)<(n:Int):=by omega
   have TO:Hid (∀W,EvArg W (.slice ea en ec) ps→ValsAt W w.heap.size n (qp3 ps ts k)→w.heap.size<W.heap.size→qx7 W ps (.slice ea en ec) (.slice (some ⟨w.heap.size,0,none⟩) n n) (qp3 ps ts k) t):=v7 fun W h1 h2 h3=>tof_any h1 h2 h3 (q9 HVG k (by have:=q9 HN;omega)) ((q9 HG).fits k t ht) (by omega)
   generalize qp3 ps ts k=vs at *
   obtain ⟨x,hx⟩:∃x,ofT ps vs t=x:=⟨_,rfl⟩
   unfold qx7 at TO
   rw [hx] at TO hS
   simp only [tmV] at TO
   clear hcB hfB hB ht hx
   go_wp2_with (go_at_call 69;refine (q9 TO _ ((q9 HEV).below (v8 (q9 HL).bel (qq1 wr _))) ((q9 HL).vals.below (qq1 wr _) hzr) (by simp;omega)).mono ?_;rintro e w2 ⟨rfl,hb2⟩;have HL2:=v7 ((q9 HL).next (v8 (qq1 wr _) hb2));have fz2:=(q9 HL2).fz;obtain ⟨v0,v1,v2⟩:=(q9 HL2).vals k hlt;have lt2:=(q9 HL2).lt;clear hb2;simp only [vV])
   case roundEnd=>exact ⟨⟨k+1,by omega,rfl,v7 (by rw [q9 hS];exact (q9 HL2).store (q9 hVL) hlt x)⟩,by simp [intOf];omega⟩
  ·have:k=n:=by omega
   subst this
   have d2:wr.cell? ⟨pb,o+1,none⟩=some (.slice ra m rc):=((q9 HL).bel.cell (p:=⟨pb,o+1,none⟩) plt).trans c1
   obtain ⟨hVG,hVL⟩:Hid (∀i,Gv ((qp3 ps ts k).getD i nV))∧Hid ((qp3 ps ts k).length=k):=⟨v7 (q9 HVG k (by have:=q9 HN;omega)),v7 (qp4 _ _ _)⟩
   have hzr:=(q9 HL).lt
   generalize qp3 ps ts k=vs at *
   go_wp2_with fail
   go_loopw [8,40] (fun v i wr=>∃j:Nat,j≤m∧i=.int .i64 j∧Hid (RunAt w wr w.heap.size k vs)∧Hid (IsAt wr (w.heap.size+1) v (jy2 vs rs j))) (fun _ i _=>m - (intOf i).toNat)
   case atStart=>exact ⟨0,Nat.zero_le _,rfl,HL,v7 (IsAt.nil _ _)⟩
   case round=>
    obtain ⟨j,hj2,rfl,HL2,HI⟩:=hrel
    by_cases hlt2:j<m
    ·obtain ⟨r,hr⟩:∃r,rs[j]?=some r:=⟨_,List.getElem?_eq_getElem (by have:=q9 HM;omega)⟩
     obtain ⟨g,rfl,glt,t0⟩:=q9 HRC j r hr
     have hrk:r<k:=by have h1:=(q9 HG).below r (List.mem_of_getElem? hr);have h2:=q9 HN;omega
     have hS:Hid (jy2 vs rs (j+1)=jy2 vs rs j++(if vs.getD r nV=bV true then [j] else [])):=v7 (by rw [jy2,List.getD_eq_getElem?_getD (l:=rs),hr];rfl)
     have hML:Hid ((jy2 vs rs j).length≤j):=v7 (vk4 _ _ _)
     obtain ⟨hcB,hfB⟩:=j6 (q9 HL2).bel
     rw [←hcB g j glt] at t0
     obtain ⟨v0,v1,v2⟩:=(q9 HL2).vals r hrk
     have hzr2:=(q9 HL2).lt
     have hzg:g<wr.heap.size:=by have:=(q9 HL2).bel.size;omega
     have hj0:(0:Int)≤(j:Int):=by omega
     have hj1:(j:Int)<(m:Int):=by omega
     have hr0:(0:Int)≤(r:Int):=by omega
     have hr1:(r:Int)<(k:Int):=by omega
     obtain ⟨x,hx⟩:∃x,vs.getD r nV=x:=⟨_,rfl⟩
     rw [hx] at v0 v1 v2 hS
     have ex:=fun w=>vj6 x (bV true) w
     simp only [vV] at ex
     clear hcB hfB hr hx
     by_cases hb:x=bV true
     ·have hd:decide (x=bV true)=true:=decide_eq_true hb
      simp only [hd] at ex
      rw [if_pos hb] at hS
      clear hd hb
      have hbb:Below wr.heap.size wr (wr.alloc (.cells #[.int .i64 (bV true).kind,.int .i64 (bV true).num,.string (BS (bV true).str)] 118)).drew:=(qq1 wr _).drew
      obtain ⟨g5,cap5,w5,hap,HI5,HB5⟩:=IsAt.app' (W':=((wr.alloc (.cells #[.int .i64 (bV true).kind,.int .i64 (bV true).num,.string (BS (bV true).str)] 118)).alloc (.cells #[.int .i64 j] 3)).drew) ((q9 HI).below hbb (Nat.le_refl _)) (by simp;omega) j (by have:=q9 hML;omega) 29 (wr.heap.size+1) (by simp) rfl
      have HL5:=v7 (((q9 HL2).next hbb).nextB (q9 HB5) (Nat.lt_succ_self _))
      clear hbb HB5
      go_wp2_with fail
      go_region_with (go_at_call 70;refine (qa7 _ _).mono ?_;rintro e w' ⟨rfl,rfl⟩;simp only [vV])
      all_goals go_wp2_with fail
      all_goals exact ⟨⟨j+1,by omega,rfl,HL5,v7 (by rw [q9 hS];exact q9 HI5)⟩,by simp [intOf];omega⟩
     ·have hd:decide (x=bV true)=false:=decide_eq_false hb
      simp only [hd] at ex
      rw [if_neg hb] at hS
      clear hd hb
      go_wp2_with fail
      go_region_with (go_at_call 70;refine (qa7 _ _).mono ?_;rintro e w' ⟨rfl,rfl⟩;simp only [vV])
      all_goals go_wp2_with fail
      all_goals exact ⟨⟨j+1,by omega,rfl,v7 ((q9 HL2).next (by repeat (first|exact Below.refl _ _|apply Below.drew|apply x3))),v7 (by rw [q9 hS,List.append_nil];exact IsAt.below (q9 HI) (by repeat (first|exact Below.refl _ _|apply Below.drew|apply x3)) (Nat.le_refl _))⟩,by simp [intOf];omega⟩
    ·have:j=m:=by omega
     subst this
     have HI':=v7 (IsAt.mono (q9 HI) (Nat.le_succ _))
     have HB':=v7 (q9 HL2).bel
     go_wp2_with fail
     go_ret
     exact ⟨_,rfl,by rw [q9 HR];exact q9 HI',q9 HB'⟩
end
section
attribute [local go_sem ↓] qc3
theorem SubsAt.form {w:World} {lo:Nat} {v:Value} {l:List Sb} (h:SubsAt w lo v l):∃a c,v=.slice a l.length c:=by
 obtain ⟨a,c,hv,_⟩:=h
 exact ⟨a,c,hv⟩
theorem vb7 (bb:Nat) (l:List Sb) (id:Int) (v:Value) (w:World) (hc:w.cell? ⟨bb,1,none⟩=some v) (h:SubsAt w w.heap.size v l) (hup:qp6 l) (hn:l.length≤8) :
  Calls Tryz.prog 30 #[.pointer (some ⟨bb,0,none⟩),.int .i64 id] w fun e w'=>e=.returned (.tuple #[.int .i64 (qb8 l id),.bool (l.any fun s=>s.id==id)])∧Below w.heap.size w w':=by
 have BS:=v7 (jg2 l id v w h hup hn)
 obtain ⟨a,c,rfl⟩:=h.form
 obtain ⟨F,hF⟩:∃F,(l.any fun s=>s.id==id)=F:=⟨_,rfl⟩
 obtain ⟨P,hP⟩:∃P,qb8 l id=P:=⟨_,rfl⟩
 rw [hF,hP] at BS ⊢
 clear hF hP h
 go_enter Tryz.func30,Tryz.ntmps30
 go_wp2_with (go_at_call 51;refine (q9 BS).mono ?_;rintro e w1 ⟨rfl,hb1⟩;have B1:=v7 hb1;clear hb1)
 go_ret2
 exact ⟨rfl,q9 B1⟩
theorem new_any (w:World):Calls Tryz.prog 10 #[] w fun e w'=>e=.returned (.pointer (some ⟨w.heap.size,0,none⟩))∧w'=w.alloc (.cells #[.int .i64 0,.slice none 0 0,.slice none 0 0,.slice none 0 0] 67):=by
 go_enter Tryz.func10,Tryz.ntmps10
 go_wp2_with fail
 go_ret
 exact ⟨rfl,rfl⟩
theorem nodes_any (bb n:Nat) (a:Option Addr) (c:Nat) (w:World) (h:w.cell? ⟨bb,2,none⟩=some (.slice a n c)):Calls Tryz.prog 18 #[.pointer (some ⟨bb,0,none⟩)] w fun e w'=>e=.returned (.int .i64 n)∧w'=w:=by
 have T:=v7 (vd6 bb 2 n a c w h)
 go_enter Tryz.func18,Tryz.ntmps18
 go_wp2_with (go_at_call 36;refine (q9 T).mono ?_;rintro e w1 ⟨rfl,rfl⟩)
 go_ret
 exact ⟨rfl,rfl⟩
end
end Go.Proofs.YtfkcaldjphakpabGreatDoor
