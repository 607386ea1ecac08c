/- demandAlike, class, checkClasses. -/
import Derived.Test.YtfkcaldjphakpabGreatDoorF12
import Derived.Deep.RegionHeld3
namespace Go.Proofs.YtfkcaldjphakpabGreatDoor
open Go.RowKit
def AlikeEnds (w:World) (r:CRes) (e:Ending) (w':World):Prop:=Below w.heap.size w w'∧match r with
 | .ok _=>e=.returned (.tuple #[])
 | .err q=>e=x4 4 q
set_option maxHeartbeats 1000000 in
set_option maxRecDepth 100000 in
theorem vz8 (lo:Nat) (p:Pay) (x y:Ast) (hx:qe9 lo x) (hy:qe9 lo y) (w:World) (v:Value) (h:IsNode lo w v (.bin p x y)) :
  Calls Tryz.prog 136 #[v] w (AlikeEnds w (qk4 p.place (qa1 x) (qa1 y))):=by
 obtain ⟨b,g,v1,v2,rfl,hn,hg1,hg2,e1,e2,n1,n2⟩:=h
 obtain ⟨b1,rfl⟩:=n1.ptr
 obtain ⟨b2,rfl⟩:=n2.ptr
 obtain ⟨hab,hbw,c0,c1,c2,c3,c4,c5,c6⟩:=hn
 obtain ⟨pl,hpl⟩:∃pl,p.place=pl:=⟨_,rfl⟩
 rw [hpl] at c1 ⊢
 have N1:=v7 (n1.kept ((Kept.refl lo w).drew))
 have N2:=v7 n2
 have CX:=v7 hx
 have CY:=v7 hy
 clear c0 c3 c4 c5 c6 n1 n2 hx hy hpl
 cases hxc:qa1 x with
 | err q=>
  have HX:=v7 hxc
  clear hxc
  rw [qk4]
  go_enter Tryz.func136,Tryz.ntmps136
  go_wp2_with fail
  go_region_with (first|(go_at_call_of 88 (Value.pointer (some { block:=b1,off:=0 }));refine (q9 CX _ _ (q9 N1)).mono ?_;rintro e w1 ⟨hb1,h1⟩;rw [q9 HX] at h1;subst h1;refine gone (w:=w1) ⟨rfl,((Below.refl w.heap.size w).drew).trans hb1,rfl⟩ ?_))
  all_goals trivial
 | ok cx=>
  have HX:=v7 hxc
  clear hxc
  cases hyc:qa1 y with
  | err q=>
   have HY:=v7 hyc
   clear hyc
   rw [qk4]
   go_enter Tryz.func136,Tryz.ntmps136
   go_wp2_with fail
   go_region_with (first|(go_at_call_of 88 (Value.pointer (some { block:=b1,off:=0 }));refine (q9 CX _ _ (q9 N1)).mono ?_;rintro e w1 ⟨hb1,h1⟩;rw [q9 HX] at h1;subst h1;have hb1:Below w.heap.size w w1:=((Below.refl w.heap.size w).drew).trans hb1;obtain ⟨hc,hf⟩:=j6 hb1;have k2:w1.cell? ⟨b,2,none⟩=some (.slice (some ⟨g,0,none⟩) 2 2):=(hc _ 2 hbw).trans c2;have k3:w1.cell? ⟨g,0,none⟩=some (.pointer (some ⟨b1,0,none⟩)):=(hc _ 0 hg2).trans e1;have k4:w1.cell? ⟨g,1,none⟩=some (.pointer (some ⟨b2,0,none⟩)):=(hc _ 1 hg2).trans e2;have z1:=hb1.size;have hb1:=v7 hb1;clear hc hf)|(go_at_call_of 88 (Value.pointer (some { block:=b2,off:=0 }));refine (q9 CY _ _ ((q9 N2).kept (Kept.of_below (q9 hb1)))).mono ?_;rintro e w2 ⟨hb2,h2⟩;rw [q9 HY] at h2;subst h2;refine gone (w:=w2) ⟨rfl,v8 (q9 hb1) hb2,rfl⟩ ?_))
   all_goals trivial
  | ok cy=>
   have HY:=v7 hyc
   clear hyc
   rw [qk4]
   obtain ⟨R,hR⟩:∃r,(if (cx != cy&&cx != 0&&cy != 0)=true then CRes.err pl else CRes.ok 3)=r:=⟨_,rfl⟩
   rw [hR]
   have HR:=v7 hR
   clear hR
   go_enter Tryz.func136,Tryz.ntmps136
   go_wp2_with fail
   go_region_held3 (fun w'=>w'.cell? ⟨b,2,none⟩=some (.slice (some ⟨g,0,none⟩) 2 2)∧w'.cell? ⟨g,0,none⟩=some (.pointer (some ⟨b1,0,none⟩))∧w'.cell? ⟨g,1,none⟩=some (.pointer (some ⟨b2,0,none⟩))) (go_keep) (first|(go_at_call_of 88 (Value.pointer (some { block:=b1,off:=0 }));refine (q9 CX _ _ (q9 N1)).mono ?_;rintro e w1 ⟨hb1,h1⟩;rw [q9 HX] at h1;subst h1;have hb1:Below w.heap.size w w1:=((Below.refl w.heap.size w).drew).trans hb1;obtain ⟨hc,hf⟩:=j6 hb1;have k2:w1.cell? ⟨b,2,none⟩=some (.slice (some ⟨g,0,none⟩) 2 2):=(hc _ 2 hbw).trans c2;have k3:w1.cell? ⟨g,0,none⟩=some (.pointer (some ⟨b1,0,none⟩)):=(hc _ 0 hg2).trans e1;have k4:w1.cell? ⟨g,1,none⟩=some (.pointer (some ⟨b2,0,none⟩)):=(hc _ 1 hg2).trans e2;have z1:=hb1.size;have hb1:=v7 hb1;clear hc hf)|(go_at_call_of 88 (Value.pointer (some { block:=b2,off:=0 }));refine (q9 CY _ _ ((q9 N2).kept (Kept.of_below (q9 hb1)))).mono ?_;rintro e w2 ⟨hb2,h2⟩;rw [q9 HY] at h2;subst h2;obtain ⟨hc,hf⟩:=j6 hb2;have j1:w2.cell? ⟨b,1,none⟩=some (.int .i64 pl):=(hc _ 1 (by omega)).trans (((j6 (q9 hb1)).1 _ 1 hbw).trans c1);have l2:w2.cell? ⟨b,2,none⟩=some (.slice (some ⟨g,0,none⟩) 2 2):=(hc _ 2 (by omega)).trans k2;have l3:w2.cell? ⟨g,0,none⟩=some (.pointer (some ⟨b1,0,none⟩)):=(hc _ 0 (by omega)).trans k3;have l4:w2.cell? ⟨g,1,none⟩=some (.pointer (some ⟨b2,0,none⟩)):=(hc _ 1 (by omega)).trans k4;have hb2:=v7 (v8 (q9 hb1) hb2);clear hc hf))
   clear k2 k3 k4 l2 l3 l4 c1 c2 e1 e2
   cases h1:(cx != cy)<;>cases h2:(cx != 0)<;>cases h3:(cy != 0)
   all_goals
    rw [h1,h2,h3] at HR
    go_wp2_with fail
    rw [←q9 HR]
    first|exact ⟨rfl,q9 hb2,rfl⟩|(go_end0;exact ⟨q9 hb2,rfl⟩)
end Go.Proofs.YtfkcaldjphakpabGreatDoor
