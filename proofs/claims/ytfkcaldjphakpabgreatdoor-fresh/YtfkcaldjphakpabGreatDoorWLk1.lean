/- value.Like; join: IN and LIKE. -/
import Derived.Test.YtfkcaldjphakpabGreatDoorF11
import Derived.Test.YtfkcaldjphakpabGreatDoorWAm1
import Derived.Deep.RegionWith
namespace Go.Proofs.YtfkcaldjphakpabGreatDoor
open Go.RowKit
set_option maxHeartbeats 1000000 in
theorem jf3 (x:V) (pat esc:ByteArray) (hp:pat.size≤200) (hx:x.str.length≤1000) (w:World) :
  Calls Tryz.prog 105 #[vV x,.string pat,.string esc] w fun e w'=>e=.returned (vV (vq2 x pat.data.toList esc.data.toList))∧Below w.heap.size w w':=by
 unfold vq2
 have FIT:=v7 (fun w=>fits_any pat esc (BS x.str) hp (by rw [qc0];exact hx) w)
 cases hk:(x.kind==3)
 ·have hk':(x.kind != 3)=true:=by simp only [bne,hk];rfl
  simp only [Bool.false_eq_true,if_false]
  conv=>arg 3;simp only [vV]
  go_enter Tryz.func105,Tryz.ntmps105
  go_wp2_with (go_at_call 146;refine (qd1 _).mono ?_;rintro e w' ⟨rfl,hb⟩;obtain ⟨hc,hf⟩:=j6 hb;simp only [vV])
  refine bodyPost_ret (by simp [results,Tryz.results105,go_sem,hc]<;>rfl) rfl ⟨rfl, ?_⟩
  exact ((((v8 (qh0 _ _ _) hb).setCell (by simp) _).setCell (by simp) _).setCell (by simp) _)
 ·have hk':(x.kind != 3)=false:=by simp only [bne,hk];rfl
  simp only [if_true]
  obtain ⟨r,hr⟩:∃r,fitsB pat.data.toList esc.data.toList x.str=r:=⟨_,rfl⟩
  have HR:Hid (fitsB pat.data.toList esc.data.toList (BS x.str).data.toList=r):=v7 (by rw [qr2];exact hr)
  rw [hr]
  clear hr
  conv=>arg 3;simp only [vV]
  go_enter Tryz.func105,Tryz.ntmps105
  go_wp2_with (first|(go_at_call 147;refine (q9 FIT _).mono ?_;rw [q9 HR];rintro e w1 ⟨rfl,hb1⟩;have hz1:w.heap.size+1<w1.heap.size:=(by have:=hb1.size;simp at this;omega);have g0:w1.cell? ⟨w.heap.size+1,0,none⟩=some (.int .i64 0):=((j6 hb1).1 _ 0 (by simp)).trans (by simp);have g1:w1.cell? ⟨w.heap.size+1,1,none⟩=some (.int .i64 0):=((j6 hb1).1 _ 1 (by simp)).trans (by simp);have g2:w1.cell? ⟨w.heap.size+1,2,none⟩=some (.string ⟨#[]⟩):=((j6 hb1).1 _ 2 (by simp)).trans (by simp);have z1:∀j,w1.frozen? ⟨w.heap.size+1,j,none⟩=false:=(fun j=>((j6 hb1).2 _ j (by simp)).trans (by simp));have hB1:=v7 (v8 (qh0 _ _ _) hb1);clear hb1)|(go_at_call 70;refine (qg1 r _).mono ?_;rintro e w2 ⟨rfl,hb2⟩;have k0:w2.cell? ⟨w.heap.size+1,0,none⟩=some (.int .i64 0):=((j6 hb2).1 _ 0 hz1).trans g0;have k1:w2.cell? ⟨w.heap.size+1,1,none⟩=some (.int .i64 0):=((j6 hb2).1 _ 1 hz1).trans g1;have k2:w2.cell? ⟨w.heap.size+1,2,none⟩=some (.string ⟨#[]⟩):=((j6 hb2).1 _ 2 hz1).trans g2;have z2:∀j,w2.frozen? ⟨w.heap.size+1,j,none⟩=false:=(fun j=>((j6 hb2).2 _ j hz1).trans (z1 j));have hB2:=v7 (v8 (q9 hB1) hb2);clear hb2;simp only [vV]))
  refine bodyPost_ret (by simp [results,Tryz.results105,go_sem,k0,k1,k2]<;>rfl) rfl ⟨rfl, ?_⟩
  exact (((q9 hB2).setCell (by simp) _).setCell (by simp) _).setCell (by simp) _
end Go.Proofs.YtfkcaldjphakpabGreatDoor
