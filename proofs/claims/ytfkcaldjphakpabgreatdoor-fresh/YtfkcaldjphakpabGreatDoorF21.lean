/- place of a term of a core, whatever its sides. place of every core; Add. -/
import Derived.Test.YtfkcaldjphakpabGreatDoorF20
import Derived.Deep.RegionHeld3
import Derived.Deep.QuietTactic
import Derived.BigQuiet
import Derived.Deep.RegionWith
namespace Go.Proofs.YtfkcaldjphakpabGreatDoor
open Go.RowKit
section
attribute [local go_sem ↓] qc3
def NewOk (mb mp:Nat) (tv' rv:Value) (lo:Nat) (U w':World):Prop:=U.heap.size≤w'.heap.size∧∀k,lo≤k→k<U.heap.size→¬Own mb mp tv' rv k∧w'.heap[k]?=U.heap[k]?
theorem NewOk.tm {mb mp:Nat} {tv' rv:Value} {lo:Nat} {U w':World} (h:NewOk mb mp tv' rv lo U w') {t:Tm} (ht:TmAt U lo t):TmAt w' lo t∧¬Own mb mp tv' rv lo:=
 ⟨ht.same (Nat.lt_of_lt_of_le ht.lt h.1) (h.2 lo (Nat.le_refl _) ht.lt).2,(h.2 lo (Nat.le_refl _) ht.lt).1⟩
theorem NewOk.cell {mb mp:Nat} {tv' rv:Value} {lo:Nat} {U w':World} (h:NewOk mb mp tv' rv lo U w') (j:Nat) (hl:lo<U.heap.size):w'.cell? ⟨lo,j,none⟩=U.cell? ⟨lo,j,none⟩:=World.cell?_of_block (w:=U) (w':=w') (a:=⟨lo,j,none⟩) (h.2 lo (Nat.le_refl _) hl).2
theorem NewOk.frozen {mb mp:Nat} {tv' rv:Value} {lo:Nat} {U w':World} (h:NewOk mb mp tv' rv lo U w') (j:Nat) (hl:lo<U.heap.size):w'.frozen? ⟨lo,j,none⟩=U.frozen? ⟨lo,j,none⟩:=World.frozen?_of_block (w:=U) (w':=w') (a:=⟨lo,j,none⟩) (h.2 lo (Nat.le_refl _) hl).2
theorem NewOk.next {mb mp:Nat} {tv1 tv2 rv:Value} {lo:Nat} {U w1 w2:World} (h:NewOk mb mp tv1 rv lo U w1) (hk:MkKept mb mp tv1 rv tv2 rv w1 w2):NewOk mb mp tv2 rv lo U w2:=by
 have:=h.1
 refine ⟨Nat.le_trans h.1 hk.size,fun k h1 h2=>?_⟩
 obtain ⟨h3,h4⟩:=h.2 k h1 h2
 exact ⟨fun ho=>h3 (hk.rows k (by omega) ho),(hk.block k (by omega) h3).trans h4⟩
theorem vt7 {c:Option Co} (hc:vi5 c) {B E mb mp:Nat} {W U:World} {v:Value} {ts:List Tm} {rs:List Nat} {tv rv:Value} (hm:MkAt W mb mp ts rs tv rv) (hs:SidAt B E W v c) (hE:E≤W.heap.size) (ho:Out B E mb mp tv rv) (hn:ts.length+vf6 c≤2500000000) (hU:Below W.heap.size W U) :
  Calls Tryz.prog 62 #[.pointer (some ⟨mb,0,none⟩),v] U fun e w'=>∃tv',e=.returned (.int .i64 ((qd6 ts c).2:Int))∧MkAt w' mb mp (qd6 ts c).1 rs tv' rv∧MkKept mb mp tv rv tv' rv W w'∧NewOk mb mp tv' rv W.heap.size U w':=by
 have hz:=hU.size
 refine (hc B E mb mp U v ts rs tv rv (hm.below hU) (hs.keep (fun k _ h2=>hU.block k (by omega)) hz) (by omega) ho hn).mono ?_
 rintro e w' ⟨tv',rfl,hm',hk'⟩
 refine ⟨tv',rfl,hm',(MkKept.of_below hU).trans hk',hk'.size,fun k h1 h2=>?_⟩
 have hno:¬Own mb mp tv rv k:=fun h=>by have:=hm.own_lt h;omega
 exact ⟨fun h=>hno (hk'.rows k h2 h),hk'.block k h2 hno⟩
theorem TsAt.form {w:World} {base:Nat} {v:Value} {ts:List Tm} (h:TsAt w base v ts):∃a c,v=.slice a ts.length c:=by
 rcases h.2 with ⟨rfl,hn⟩|⟨g,cap,cur,rfl,_⟩
 ·exact ⟨none,0,by rw [hn]⟩
 ·exact ⟨_,_,rfl⟩
theorem TmAt.drew {w:World} {b:Nat} {t:Tm} (h:TmAt w b t):TmAt w.drew b t:=h.same h.lt rfl
set_option maxHeartbeats 4000000 in
theorem vf3 (p:CP) (x y:Option Co) (hx:vi5 x) (hy:vi5 y) (hp:GoodP p) (B E mb mp b:Nat) (W:World) (vx vy:Value) (tx:List UInt8) (ts:List Tm) (rs:List Nat) (tv rv:Value) (hm:MkAt W mb mp ts rs tv rv)
  (hc:CellsC B E W b p vx vy tx) (sx:SidAt B E W vx x) (sy:SidAt B E W vy y) (hE:E≤W.heap.size) (ho:Out B E mb mp tv rv) (hn:ts.length+vf6 x+vf6 y+1≤2500000000)
  (Q:Ending→World→Prop) (hQ:∀e w',PlEnds mb mp rs tv rv (vb5 (qd6 (qd6 ts x).1 y).1 (qz9 p (qd6 ts x).2 (qd6 (qd6 ts x).1 y).2)) W e w'→Q e w') :
  Calls Tryz.prog 62 #[.pointer (some ⟨mb,0,none⟩),.pointer (some ⟨b,0,none⟩)] W Q:=by
 have HQ:=v7 hQ
 clear hQ
 have l1:=vt0 ts x
 have l2:=vt0 (qd6 ts x).1 y
 have PX:Hid (∀U,Below W.heap.size W U→Calls Tryz.prog 62 #[.pointer (some ⟨mb,0,none⟩),vx] U fun e w'=>∃tv',e=.returned (.int .i64 ((qd6 ts x).2:Int))∧MkAt w' mb mp (qd6 ts x).1 rs tv' rv∧MkKept mb mp tv rv tv' rv W w'∧NewOk mb mp tv' rv W.heap.size U w'):=v7 fun U hU=>vt7 hx hm sx hE ho (by omega) hU
 have PY:Hid (∀w1 tv1,MkAt w1 mb mp (qd6 ts x).1 rs tv1 rv→MkKept mb mp tv rv tv1 rv W w1→∀U,Below w1.heap.size w1 U→Calls Tryz.prog 62 #[.pointer (some ⟨mb,0,none⟩),vy] U fun e w'=>∃tv',e=.returned (.int .i64 ((qd6 (qd6 ts x).1 y).2:Int))∧MkAt w' mb mp (qd6 (qd6 ts x).1 y).1 rs tv' rv∧MkKept mb mp tv1 rv tv' rv w1 w'∧NewOk mb mp tv' rv w1.heap.size U w'):=
  v7 fun w1 tv1 h1 h2 U hU=>vt7 hy h1 (sy.keep (ho.keep h2 hE) h2.size) (Nat.le_trans hE h2.size) (ho.next h2 hE) (by omega) hU
 have cs0:CS b p vx vy W.drew:=hc.cs
 have csA:CS b p vx vy (W.alloc (.cells #[.int .i64 0,.int .i64 0,.int .i64 0,.int .i64 0,.string ⟨#[]⟩,.string ⟨#[]⟩] 142)).drew:=CS.alloc hc.cs hc.within _
 have B0:Below W.heap.size W W.drew:=(Below.refl _ _).drew
 have BA:Below W.heap.size W (W.alloc (.cells #[.int .i64 0,.int .i64 0,.int .i64 0,.int .i64 0,.string ⟨#[]⟩,.string ⟨#[]⟩] 142)).drew:=((Below.refl _ _).alloc (Nat.le_refl _) _).drew
 unfold CS at cs0 csA
 have CK:Hid (∀w1 tv1,MkKept mb mp tv rv tv1 rv W w1→CS b p vx vy w1):=v7 fun w1 tv1 hk=>hc.cs.same (hk.block b hc.within (fun h=>by have:=ho b h;have:=hc.lo;have:=hc.hi;omega))
 have hbw:=hc.within
 have hop:=hp.op
 have HGT:Hid (HoldT (qz9 p (qd6 ts x).2 (qd6 (qd6 ts x).1 y).2)):=v7 (tmOf_good hp (by omega) (by omega))
 have h2len:(qd6 (qd6 ts x).1 y).1.length≤2500000000:=by omega
 have HM:=v7 hm
 obtain ⟨T,hT⟩:∃T,qz9 p (qd6 ts x).2 (qd6 (qd6 ts x).1 y).2=T:=⟨_,rfl⟩
 have e0:Value.int .i64 p.op=.int .i64 (T.op:Int):=by rw [←hT];show _=Value.int .i64 ((p.op.toNat:Nat):Int);rw [Int.toNat_of_nonneg hop.1]
 have e1:Value.int .i64 ((qd6 ts x).2:Int)=.int .i64 (T.left:Int):=by rw [←hT];rfl
 have e2:Value.int .i64 ((qd6 (qd6 ts x).1 y).2:Int)=.int .i64 (T.right:Int):=by rw [←hT];rfl
 have e3:Value.int .i64 p.num=.int .i64 T.num:=by rw [←hT];rfl
 have e4:Value.string (BS p.str)=.string (BS T.str):=by rw [←hT];rfl
 have e5:Value.string (BS p.esc)=.string (BS T.esc):=by rw [←hT];rfl
 have E0:=v7 e0
 have E1:=v7 e1
 have E2:=v7 e2
 have E3:=v7 e3
 have E4:=v7 e4
 have E5:=v7 e5
 rw [hT] at HGT HQ
 clear hT e0 e1 e2 e3 e4 e5 hx hy hp hm hc sx sy l1 l2 ho
 generalize qd6 (qd6 ts x).1 y=r2 at *
 generalize qd6 ts x=r1 at *
 obtain ⟨ts2,i2⟩:=r2
 obtain ⟨ts1,i1⟩:=r1
 simp only at PX PY E1 E2 h2len HQ
 go_enter Tryz.func62,Tryz.ntmps62
 go_wp2_with fail
 go_cut [5] (fun s5 wx=>∃(tb:Nat) (tv2:Value),s5=.pointer (some ⟨tb,0,none⟩)∧Hid (PlMid W mb mp rs tv rv ts2 tv2 tb T wx))
 case first=>
  go_region_held3 (fun w'=>w'.cell? ⟨b,0,none⟩=some (.int .i64 p.op)∧w'.cell? ⟨b,1,none⟩=some vx∧w'.cell? ⟨b,2,none⟩=some vy∧w'.cell? ⟨b,3,none⟩=some (.int .i64 p.num)∧w'.cell? ⟨b,4,none⟩=some (.string (BS p.str))∧w'.cell? ⟨b,5,none⟩=some (.string (BS p.esc)))
   (with_reducible assumption)
   (first|(go_at_call 62;refine (q9 PY w1 tv1 (q9 M1) (q9 K1) _ (by with_reducible assumption)).mono ?_;rintro e w2 ⟨tv2,rfl,hm2,hk2,hn2⟩;have M2:=v7 hm2;have K2:=v7 ((q9 K1).trans hk2);have CS2:=q9 CK w2 tv2 (q9 K2);have z2:=hk2.size;have cs2:=CS2;have cs2a:=CS.alloc CS2 (by omega) (.cells #[.int .i64 0,.int .i64 0,.int .i64 0,.int .i64 0,.string ⟨#[]⟩,.string ⟨#[]⟩] 142);have cs2b:=CS.alloc CS2 (by omega) (.cells #[.int .i64 p.op,.int .i64 i1,.int .i64 i2,.int .i64 p.num,.string (BS p.str),.string (BS p.esc)] 142);have cs2s:CS b p vx vy ((((((w2.setCell ⟨W.heap.size,0,none⟩ (.int .i64 p.op)).setCell ⟨W.heap.size,1,none⟩ (.int .i64 i1)).setCell ⟨W.heap.size,2,none⟩ (.int .i64 i2)).setCell ⟨W.heap.size,3,none⟩ (.int .i64 p.num)).setCell ⟨W.heap.size,4,none⟩ (.string (BS p.str))).setCell ⟨W.heap.size,5,none⟩ (.string (BS p.esc))):=CS.set6 CS2 (by omega);have cs2t:CS b p vx vy ((((((w2.setCell ⟨w1.heap.size,0,none⟩ (.int .i64 p.op)).setCell ⟨w1.heap.size,1,none⟩ (.int .i64 i1)).setCell ⟨w1.heap.size,2,none⟩ (.int .i64 i2)).setCell ⟨w1.heap.size,3,none⟩ (.int .i64 p.num)).setCell ⟨w1.heap.size,4,none⟩ (.string (BS p.str))).setCell ⟨w1.heap.size,5,none⟩ (.string (BS p.esc))):=CS.set6 CS2 (by omega);unfold CS at cs2 cs2a cs2b cs2s cs2t;have HN2:=v7 hn2;have HN1':=v7 ((q9 HN1).next hk2);have b2:=hn2.cell;have f2:=hn2.frozen;have a2:=(q9 HN1').cell;have g2:=(q9 HN1').frozen;clear hm2 hk2 hn2)|(go_at_call 62;refine (q9 PX _ (by with_reducible assumption)).mono ?_;rintro e w1 ⟨tv1,rfl,hm1,hk1,hn1⟩;have M1:=v7 hm1;have K1:=v7 hk1;have z1:=hk1.size;have cs1:=q9 CK w1 tv1 hk1;have cs1a:=CS.alloc cs1 (by omega) (.cells #[.int .i64 0,.int .i64 0,.int .i64 0,.int .i64 0,.string ⟨#[]⟩,.string ⟨#[]⟩] 142);unfold CS at cs1 cs1a;have B1:=Below.refl w1.heap.size w1;have B1A:=(Below.refl w1.heap.size w1).alloc (Nat.le_refl _) (.cells #[.int .i64 0,.int .i64 0,.int .i64 0,.int .i64 0,.string ⟨#[]⟩,.string ⟨#[]⟩] 142);have HN1:=v7 hn1;clear hm1 hk1 hn1))
  ·go_wp2_with fail
   go_meet
   exact ⟨w2.heap.size,tv2,rfl,v7 (PlMid.alloc (q9 M2) (q9 K2) (q9 E0) (q9 E1) (q9 E2) (q9 E3) (q9 E4) (q9 E5) _)⟩
  ·go_wp2_with fail
   go_meet
   exact ⟨w1.heap.size,tv2,rfl,v7 (PlMid.set (q9 M2) (q9 K2) ((q9 HN2).tm (TmAt.new w1 0 _)).1 ((q9 HN2).tm (TmAt.new w1 0 _)).2 z1 (q9 E0) (q9 E1) (q9 E2) (q9 E3) (q9 E4) (q9 E5))⟩
  ·go_wp2_with fail
   go_meet
   exact ⟨W.heap.size,tv2,rfl,v7 (PlMid.set (q9 M2) (q9 K2) ((q9 HN1').tm (TmAt.new W 0 _).drew).1 ((q9 HN1').tm (TmAt.new W 0 _).drew).2 (Nat.le_refl _) (q9 E0) (q9 E1) (q9 E2) (q9 E3) (q9 E4) (q9 E5))⟩
 case rest=>
  obtain ⟨tb,tv2,rfl,HMID⟩:=hcut
  clear PX PY CK cs0 csA B0 BA E0 E1 E2 E3 E4 E5 HM
  obtain ⟨ta,tc,rfl⟩:=(q9 HMID).mka.ats.form
  obtain ⟨tl,t0,t1,t2,t3,t4,t5,tf⟩:=(q9 HMID).tm
  have c0:=(q9 HMID).mka.c0
  have c2:=(q9 HMID).mka.c2
  have lt0:=(q9 HMID).mka.lt
  cases hw:qi3 ts2 T with
  | some i=>
   have hlk:=(q9 HMID).mka.drew.look_some (q9 HGT) hw
   have hput:vb5 ts2 T=(ts2,i):=by rw [vb5,hw]
   rw [hput] at HQ
   clear hput hw
   go_wp2_with fail
   go_region
   all_goals go_wp2_with fail
   all_goals exact q9 HQ _ _ ⟨_,rfl,(q9 HMID).mka.drew,(q9 HMID).kept.trans (MkKept.of_below (Below.refl _ _).drew)⟩
  | none=>
   obtain ⟨c,hlk⟩:=(q9 HMID).mka.drew.look_none (q9 HGT) hw
   have hput:vb5 ts2 T=(ts2++[T],ts2.length):=by rw [vb5,hw]
   rw [hput] at HQ
   obtain ⟨W1,hupd,d0,lt1,HT1,g,cap,w5,hap,c5,f5,lt5,HM5,HK5⟩:=(q9 HMID).mka.drew.drew.put (q9 HGT) hw h2len (q9 HMID).tm.drew.drew (q9 HMID).no
   obtain ⟨ul,u0,u1,u2,u3,u4,u5,uf⟩:=q9 HT1
   clear hput hw
   go_wp2_with fail
   go_region
   all_goals go_wp2_with fail
   all_goals go_region
   all_goals go_wp2_with fail
   all_goals go_region
   all_goals go_wp2_with fail
   all_goals exact q9 HQ _ _ ⟨_,rfl,q9 HM5,((q9 HMID).kept.trans (MkKept.of_below (Below.refl _ _).drew.drew)).trans (q9 HK5)⟩
end
section
attribute [local go_sem ↓] qc3
theorem vx1:∀c,vg9 c→vi5 (some c):=by
 intro c
 induction c with
 | leaf p=>
  intro hg B E mb mp W v ts rs tv rv hm hs hE ho hn
  obtain ⟨b,rfl,hc⟩:∃b,v=at0 b∧CellsC B E W b p nilP nilP (z9 (.leaf p)):=hs
  exact vf3 p none none va9 va9 hg B E mb mp b W nilP nilP _ ts rs tv rv hm hc rfl rfl hE ho (by have:vf6 (some (Co.leaf p))=1:=rfl;simp only [vf6] at *;omega) _ fun e w' h=>h
 | un p x ih=>
  intro hg B E mb mp W v ts rs tv rv hm hs hE ho hn
  obtain ⟨b,vx,rfl,hc,hx⟩:∃b vx,v=at0 b∧CellsC B E W b p vx nilP (z9 (.un p x))∧CoAt B E W vx x:=hs
  exact vf3 p (some x) none (ih hg.2) va9 hg.1 B E mb mp b W vx nilP _ ts rs tv rv hm hc hx rfl hE ho (by have:vf6 (some (Co.un p x))=qt8 x+1:=rfl;simp only [vf6] at *;omega) _ fun e w' h=>h
 | bin p x y ihx ihy=>
  intro hg B E mb mp W v ts rs tv rv hm hs hE ho hn
  obtain ⟨b,vx,vy,rfl,hc,hx,hy⟩:∃b vx vy,v=at0 b∧CellsC B E W b p vx vy (z9 (.bin p x y))∧CoAt B E W vx x∧CoAt B E W vy y:=hs
  exact vf3 p (some x) (some y) (ihx hg.2.1) (ihy hg.2.2) hg.1 B E mb mp b W vx vy _ ts rs tv rv hm hc hx hy hE ho (by have:vf6 (some (Co.bin p x y))=qt8 x+qt8 y+1:=rfl;simp only [vf6] at *;omega) _ fun e w' h=>h
theorem MkAt.appRoot {W:World} {mb mp:Nat} {ts:List Tm} {rs:List Nat} {tv rv:Value} (h:MkAt W mb mp ts rs tv rv) (r:Nat) (hn:rs.length≤1000) (ty:TypeId) :
  ∃g cap w5,(qh7 #[29,29] ty #[rv,.slice (some ⟨W.heap.size,0,none⟩) 1 1]).run Tryz.prog (W.alloc (.cells #[.int .i64 r] 3))=.ok (.slice (some ⟨g,0,none⟩) (rs.length+1) cap) w5 ∧
   w5.cell? ⟨mb,1,none⟩=some rv∧(∀j,w5.frozen? ⟨mb,j,none⟩=false)∧mb<w5.heap.size ∧
   Hid (MkAt (w5.setCell ⟨mb,1,none⟩ (.slice (some ⟨g,0,none⟩) (rs.length+1) cap)) mb mp ts (rs++[r]) tv (.slice (some ⟨g,0,none⟩) (rs.length+1) cap)) ∧
   Hid (MkKept mb mp tv rv tv (.slice (some ⟨g,0,none⟩) (rs.length+1) cap) W (w5.setCell ⟨mb,1,none⟩ (.slice (some ⟨g,0,none⟩) (rs.length+1) cap))):=by
 obtain ⟨i0,hi,hz0,hz1,hz2⟩:=info_parts qu2
 have hlt:=h.lt
 obtain ⟨g,cap,w5,hr,hown,hgrow,hat,_⟩:=run_append_lies (P:=Tryz.prog) (W.alloc (.cells #[.int .i64 r] 3)) 29 ty (mb+1) 3 i0 _ 1 8 Tryz.underlying29 hi hz0 hz1 hz2 rfl (by omega) rv rs.length (qj3 rs) (World.ownsRow.alloc h.ars _)
  ⟨W.heap.size,0,none⟩ 1 1 [.int .i64 r] rfl (World.news_of_block (cs:=#[.int .i64 r]) (t:=3) (fr:=(0,0)) (heap_alloc_new W _)) (by simp [Value.oneCell']) (by omega) (by unfold maxLen;omega) (by omega) (by simp;omega) _ rfl
 obtain ⟨hm5,hk5⟩:=h.root hown hgrow hat rfl
 have hmb:w5.heap[mb]?=W.heap[mb]?:=(hgrow.block mb (by simp;omega) (fun e=>by have:=(h.ars.lt mb e.symm).1;omega)).trans (Below.heap_alloc W _ mb hlt)
 have hz5:=hgrow.size
 refine ⟨g,cap,w5,hr, ?_,fun j=>?_, ?_,v7 hm5,v7 hk5⟩
 ·exact (World.cell?_of_block (w:=W) (w':=w5) (a:=⟨mb,1,none⟩) hmb).trans h.c1
 ·exact (World.frozen?_of_block (w:=W) (w':=w5) (a:=⟨mb,j,none⟩) hmb).trans (h.fz j)
 ·simp at hz5
  omega
set_option maxHeartbeats 1000000 in
theorem jr8 (c:Co) (hg:vg9 c) (B E mb mp:Nat) (W:World) (v:Value) (ts:List Tm) (rs:List Nat) (tv rv:Value) (hm:MkAt W mb mp ts rs tv rv) (hs:CoAt B E W v c) (hE:E≤W.heap.size) (ho:Out B E mb mp tv rv) (hn:ts.length+qt8 c≤2500000000) (hr:rs.length≤1000)
  (Q:Ending→World→Prop) (hQ:∀w' tv' rv',MkAt w' mb mp (j8 ts c).1 (rs++[(j8 ts c).2]) tv' rv'→MkKept mb mp tv rv tv' rv' W w'→Q (.returned (.tuple #[])) w') :
  Calls Tryz.prog 38 #[.pointer (some ⟨mb,0,none⟩),v] W Q:=by
 have HQ:=v7 hQ
 have PL:Hid _:=v7 (vx1 c hg B E mb mp W.drew v ts rs tv rv hm.drew (CoAt.keep (w:=W) (w':=W.drew) (Nat.le_refl _) (fun _ _ _=>rfl) (Nat.le_refl _) hs) hE ho hn)
 have c1:=hm.c1
 have lt0:=hm.lt
 obtain ⟨b,p,l,r,rfl,_⟩:=hs.head
 unfold PlEnds at PL
 change Hid (Calls _ _ #[_,.pointer (some ⟨b,0,none⟩)] _ fun e W'=>∃tv',e=.returned (.int .i64 ((j8 ts c).2:Int))∧MkAt W' mb mp (j8 ts c).1 rs tv' rv∧MkKept mb mp tv rv tv' rv W.drew W') at PL
 change Calls _ _ #[_,.pointer (some ⟨b,0,none⟩)] _ _
 generalize j8 ts c=R at *
 obtain ⟨ts',i⟩:=R
 simp only at PL HQ
 clear hQ hm hs ho
 go_enter Tryz.func38,Tryz.ntmps38
 go_region_with (go_at_call 62;refine (q9 PL).mono ?_;rintro e w4 ⟨tv4,rfl,hm4,hk4⟩;have c4:=hm4.c1;have f4:=hm4.fz;have lt4:=hm4.lt;obtain ⟨g,cap,w5,hap,c5,f5,lt5,HM5,HK5⟩:=hm4.appRoot i hr 29;have HK4:=v7 hk4.drew';clear hm4 hk4)
 all_goals go_wp2_with fail
 all_goals exact bodyPost_end (results_none rfl _ _ _) rfl (q9 HQ _ _ _ (q9 HM5) ((q9 HK4).trans (q9 HK5)))
end
end Go.Proofs.YtfkcaldjphakpabGreatDoor
