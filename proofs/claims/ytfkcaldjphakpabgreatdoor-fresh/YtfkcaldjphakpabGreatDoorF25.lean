/- Eval of any text and any list of properties. A heap in memory: Pop. Rows of elements of several cells: copy, clear, append onto a row's own part. -/
import Derived.Test.YtfkcaldjphakpabGreatDoorF22
import Derived.Test.YtfkcaldjphakpabGreatDoorF27
import Derived.Test.YtfkcaldjphakpabGreatDoorF15
import Derived.Test.YtfkcaldjphakpabGreatDoorF23
import Derived.Lib.Overlaps
import Derived.Lib.AppendZerosOnto
set_option maxHeartbeats 2000000
set_option maxRecDepth 100000
namespace Go.Proofs.YtfkcaldjphakpabGreatDoor
open Go.RowKit
section
def EvIn (w:World) (ev:Value) (ps:List Pr):Prop:=
 (ps=[]∧∃a cap,ev=.slice a 0 cap)∨∃b off cap,ev=.slice (some ⟨b,off,none⟩) ps.length cap∧ps.length≤cap∧EvAt w b off ps∧b<w.heap.size
theorem EvIn.below {w w':World} {ev:Value} {ps:List Pr} (h:EvIn w ev ps) (hb:Below w.heap.size w w'):EvIn w' ev ps:=by
 rcases h with h|⟨b,off,cap,rfl,hc,he,hlt⟩
 ·exact .inl h
 ·exact .inr ⟨b,off,cap,rfl,hc,he.below hb hlt,Nat.lt_of_lt_of_le hlt hb.size⟩
theorem EvIn.slice {w:World} {ev:Value} {ps:List Pr} (h:EvIn w ev ps):∃a n c,ev=.slice a n c:=by
 rcases h with ⟨_,a,cap,rfl⟩|⟨b,off,cap,rfl,_⟩
 ·exact ⟨_,_,_,rfl⟩
 ·exact ⟨_,_,_,rfl⟩
theorem EvIn.arg {w:World} {ev:Value} {ps:List Pr} (h:EvIn w ev ps) (h8:ps.length≤8):EvArg w ev ps:=by
 refine ⟨h8, ?_⟩
 rcases h with h|⟨b,off,cap,rfl,hc,he,hlt⟩
 ·exact .inl h
 ·exact .inr ⟨b,off,cap,rfl,he,hlt⟩
structure EvGood (ps:List Pr):Prop where
 short:Short ps
 rng:vz3 ps
 len:ps.length≤140737488355328
theorem ve0 {w:World} {ev:Value} {ps:List Pr} (h:EvIn w ev ps) (hg:EvGood ps) :
  Calls Tryz.prog 40 #[ev] w fun e w'=>e=.returned (.bool (ve2 ps))∧Below w.heap.size w w':=by
 rcases h with ⟨rfl,a,cap,rfl⟩|⟨b,off,cap,rfl,hc,he,hlt⟩
 ·exact jp3 a cap w
 ·exact jh3 b off cap ps w hc hg.len hg.short he hlt
theorem evOk_8 {ps:List Pr} (h:ve2 ps=true):ps.length≤8:=by
 apply Decidable.byContradiction
 intro hn
 rw [evOk_long hn] at h
 cases h
theorem evOk_at {ps:List Pr} (h:ve2 ps=true) {p:Pr} (hp:p∈ps):qw8 p.name=true∧vy3 p.val=true:=by
 obtain ⟨k,hk⟩:=List.getElem?_of_mem hp
 unfold ve2 at h
 rw [Bool.and_eq_true,List.all_eq_true] at h
 obtain ⟨hlt,_⟩:=List.getElem?_eq_some_iff.1 hk
 have:=h.2 k (List.mem_range.2 hlt)
 unfold zd0 at this
 rw [hk] at this
 simp only [Bool.and_eq_true] at this
 exact this.1
theorem valOk_str {v:V} (h:vy3 v=true):v.str.length≤20:=by
 apply Decidable.byContradiction
 intro hn
 have he:v.str.isEmpty=false:=by cases hs:v.str with
  | nil=>rw [hs] at hn;simp at hn
  | cons c t=>rfl
 have hd:decide (v.str.length≤20)=false:=decide_eq_false hn
 simp only [vy3,he,hd,Bool.and_false,Bool.false_eq_true,ite_self] at h
theorem vv8 {ps:List Pr} (h:ve2 ps=true):EvSh ps:=fun p hp=>Nat.le_trans (valOk_str (evOk_at h hp).2) (by decide)
theorem vm8 {s:ByteArray} {t:Ast} (h:qj8 s=.ok t):vh1 t∧vg7 t:=by
 unfold qj8 at h
 by_cases hs:s.size≤200
 ·rw [if_pos hs] at h
  cases he:(lvl s 12).E (v9 s st0) with
  | err en pl=>rw [he] at h;cases h
  | ok t1 st=>
   rw [he] at h
   change endR t1 st=_ at h
   have:t1=t:=by
    unfold endR at h
    split at h
    ·split at h
     ·injection h
     ·cases h
    ·cases h
   subst this
   exact ⟨((lvl_num s 12).E _ _ _ (qc2 s st0) he).1,((lvl_bnd s hs 12).E _ _ _ (z7 hs st0) he).1⟩
 ·rw [if_neg hs] at h;cases h
theorem jw0 (s:ByteArray) (hs:s.size≤140737488355328) (t:Ast) (hrd:qj8 s=.ok t) (ps:List Pr) (ev:Value) (w:World) (hE:ErrOk w)
  (hev:EvIn w ev ps) (hg:EvGood ps) (hok:ve2 ps=true) :
  Calls Tryz.prog 112 #[.string s,ev] w fun e w'=>e=.returned (.tuple #[vV (ofA ps t),.int .i64 0,.int .i64 0])∧Below w.heap.size w w':=by
 have hof:∀lo,OfOk lo ps ev t:=fun lo=>of_every lo ps ev hg.rng (vv8 hok) t (vm8 hrd).2 (vm8 hrd).1
 have hlen:(ofA ps t).str.length≤281474976710656:=Nat.le_trans (vn0 (vv8 hok) t (vm8 hrd).2) (by decide)
 have RD:=v7 (qs7 s (w.alloc (.cells #[.int .i64 0,.int .i64 0,.string ⟨#[]⟩] 118)) (hE.alloc _) hs)
 rw [hrd] at RD
 have hbl:=(Below.refl w.heap.size w).alloc (Nat.le_refl _) (.cells #[.int .i64 0,.int .i64 0,.string ⟨#[]⟩] 118)
 have EVA:=v7 (hev.below hbl)
 obtain ⟨a,n,c,rfl⟩:=hev.slice
 have HV:=v7 (fun w1 (h:EvIn w1 (.slice a n c) ps)=>ve0 h hg)
 rw [hok] at HV
 have HOF:=v7 hof
 have HB8:=v7 (evOk_8 hok)
 obtain ⟨r,hr⟩:∃r,ofA ps t=r:=⟨_,rfl⟩
 rw [hr] at hlen ⊢
 have HR:=v7 hr
 have hzs:=qc0 r.str
 have hcl:(BS r.str).size≤281474976710656:=by omega
 clear hrd hE hg hev hok hof hr hlen hzs
 go_enter Tryz.func112,Tryz.ntmps112
 go_wp2_with (first|(go_at_call 31;refine (q9 RD).mono ?_;rintro e w1 ⟨hb1,v1,rfl,hn1⟩;obtain ⟨vb,rfl⟩:=hn1.ptr;have hz1:w.heap.size<w1.heap.size:=(by have:=hb1.size;simp at this;omega);have EV1:=v7 ((q9 EVA).below hb1);have g0:w1.cell? ⟨w.heap.size,0,none⟩=some (.int .i64 0):=((j6 hb1).1 _ 0 (by simp)).trans (by simp);have g1:w1.cell? ⟨w.heap.size,1,none⟩=some (.int .i64 0):=((j6 hb1).1 _ 1 (by simp)).trans (by simp);have g2:w1.cell? ⟨w.heap.size,2,none⟩=some (.string ⟨#[]⟩):=((j6 hb1).1 _ 2 (by simp)).trans (by simp);have z0:∀j,w1.frozen? ⟨w.heap.size,j,none⟩=false:=(fun j=>((j6 hb1).2 _ j (by simp)).trans (by simp));have hB1:=v7 (v8 hbl hb1);have hN1:=v7 hn1;clear hb1 hn1)|(go_at_call 40;refine (q9 HV _ (q9 EV1)).mono ?_;rintro e w2 ⟨rfl,hb2⟩;have hz2:w.heap.size<w2.heap.size:=(by have:=hb2.size;omega);have EV2:=v7 ((q9 EV1).below hb2);have k0:w2.cell? ⟨w.heap.size,0,none⟩=some (.int .i64 0):=((j6 hb2).1 _ 0 hz1).trans g0;have k1:w2.cell? ⟨w.heap.size,1,none⟩=some (.int .i64 0):=((j6 hb2).1 _ 1 hz1).trans g1;have k2:w2.cell? ⟨w.heap.size,2,none⟩=some (.string ⟨#[]⟩):=((j6 hb2).1 _ 2 hz1).trans g2;have z2:∀j,w2.frozen? ⟨w.heap.size,j,none⟩=false:=(fun j=>((j6 hb2).2 _ j hz1).trans (z0 j));have hN2:=v7 ((q9 hN1).kept (Kept.of_below hb2));have hB2:=v7 (v8 (q9 hB1) hb2);clear hb2 g0 g1 g2 z0)|(go_at_call 161;refine (q9 HOF _ _ _ (q9 hN2) ((q9 EV2).arg (q9 HB8))).mono ?_;rw [q9 HR];rintro e w3 ⟨rfl,hb3⟩;have hz3:w.heap.size<w3.heap.size:=(by have:=hb3.size;omega);have m0:w3.cell? ⟨w.heap.size,0,none⟩=some (.int .i64 0):=((j6 hb3).1 _ 0 hz2).trans k0;have m1:w3.cell? ⟨w.heap.size,1,none⟩=some (.int .i64 0):=((j6 hb3).1 _ 1 hz2).trans k1;have m2:w3.cell? ⟨w.heap.size,2,none⟩=some (.string ⟨#[]⟩):=((j6 hb3).1 _ 2 hz2).trans k2;have z3:∀j,w3.frozen? ⟨w.heap.size,j,none⟩=false:=(fun j=>((j6 hb3).2 _ j hz2).trans (z2 j));have hB3:=v7 (v8 (q9 hB2) hb3);clear hb3 k0 k1 k2 z2;simp only [vV])|(go_at_call 162;refine (ja5 (BS r.str) _ hcl).mono ?_;rintro e w4 ⟨rfl,hb4⟩;have hz4:w3.heap.size<w4.heap.size:=(by have:=hb4.size;simp at this;omega);have n0:w4.cell? ⟨w.heap.size,0,none⟩=some (.int .i64 0):=((j6 hb4).1 _ 0 (by simp;omega)).trans (by rw [World.cell?_alloc_past _ _ _ hz3];exact m0);have n1:w4.cell? ⟨w.heap.size,1,none⟩=some (.int .i64 0):=((j6 hb4).1 _ 1 (by simp;omega)).trans (by rw [World.cell?_alloc_past _ _ _ hz3];exact m1);have n2:w4.cell? ⟨w.heap.size,2,none⟩=some (.string ⟨#[]⟩):=((j6 hb4).1 _ 2 (by simp;omega)).trans (by rw [World.cell?_alloc_past _ _ _ hz3];exact m2);have z4:∀j,w4.frozen? ⟨w.heap.size,j,none⟩=false:=(fun j=>((j6 hb4).2 _ j (by simp;omega)).trans (by rw [World.frozen?_alloc_past _ _ _ hz3];exact z3 j));have a0:w4.cell? ⟨w3.heap.size,0,none⟩=some (.int .i64 r.kind):=((j6 hb4).1 _ 0 (by simp)).trans (by simp);have a1:w4.cell? ⟨w3.heap.size,1,none⟩=some (.int .i64 r.num):=((j6 hb4).1 _ 1 (by simp)).trans (by simp);have a2:w4.cell? ⟨w3.heap.size,2,none⟩=some (.string (BS r.str)):=((j6 hb4).1 _ 2 (by simp)).trans (by simp);have z5:∀j,w4.frozen? ⟨w3.heap.size,j,none⟩=false:=(fun j=>((j6 hb4).2 _ j (by simp)).trans (by simp));have hne:¬w3.heap.size=w.heap.size:=(by omega);have hB4:=v7 (v8 (x3 (q9 hB3) _) hb4);clear hb4 m0 m1 m2 z3))
 refine bodyPost_ret (by simp [results,Tryz.results112,go_sem,n0,n1,n2]<;>rfl) rfl ⟨rfl, ?_⟩
 exact ((((q9 hB4).setCell (by simp;omega) _).setCell (by simp) _).setCell (by simp) _).setCell (by simp) _
theorem jh5 (s:ByteArray) (hs:s.size≤140737488355328) (t:Ast) (hrd:qj8 s=.ok t) (ps:List Pr) (ev:Value) (w:World) (hE:ErrOk w)
  (hev:EvIn w ev ps) (hg:EvGood ps) (hok:ve2 ps=false) :
  Calls Tryz.prog 112 #[.string s,ev] w fun e w'=>e=.returned (.tuple #[vV nV,.int .i64 7,.int .i64 0])∧Below w.heap.size w w':=by
 have RD:=v7 (qs7 s (w.alloc (.cells #[.int .i64 0,.int .i64 0,.string ⟨#[]⟩] 118)) (hE.alloc _) hs)
 rw [hrd] at RD
 have hbl:=(Below.refl w.heap.size w).alloc (Nat.le_refl _) (.cells #[.int .i64 0,.int .i64 0,.string ⟨#[]⟩] 118)
 have EVA:=v7 (hev.below hbl)
 obtain ⟨a,n,c,rfl⟩:=hev.slice
 have HV:=v7 (fun w1 (h:EvIn w1 (.slice a n c) ps)=>ve0 h hg)
 rw [hok] at HV
 clear hrd hE hg hev hok
 go_enter Tryz.func112,Tryz.ntmps112
 go_wp2_with (first|(go_at_call 31;refine (q9 RD).mono ?_;rintro e w1 ⟨hb1,v1,rfl,hn1⟩;obtain ⟨vb,rfl⟩:=hn1.ptr;have hz1:w.heap.size<w1.heap.size:=(by have:=hb1.size;simp at this;omega);have EV1:=v7 ((q9 EVA).below hb1);have g0:w1.cell? ⟨w.heap.size,0,none⟩=some (.int .i64 0):=((j6 hb1).1 _ 0 (by simp)).trans (by simp);have g1:w1.cell? ⟨w.heap.size,1,none⟩=some (.int .i64 0):=((j6 hb1).1 _ 1 (by simp)).trans (by simp);have g2:w1.cell? ⟨w.heap.size,2,none⟩=some (.string ⟨#[]⟩):=((j6 hb1).1 _ 2 (by simp)).trans (by simp);have z0:∀j,w1.frozen? ⟨w.heap.size,j,none⟩=false:=(fun j=>((j6 hb1).2 _ j (by simp)).trans (by simp));have hB1:=v7 (v8 hbl hb1);clear hb1 hn1)|(go_at_call 40;refine (q9 HV _ (q9 EV1)).mono ?_;rintro e w2 ⟨rfl,hb2⟩;have hz2:w.heap.size<w2.heap.size:=(by have:=hb2.size;omega);have k0:w2.cell? ⟨w.heap.size,0,none⟩=some (.int .i64 0):=((j6 hb2).1 _ 0 hz1).trans g0;have k1:w2.cell? ⟨w.heap.size,1,none⟩=some (.int .i64 0):=((j6 hb2).1 _ 1 hz1).trans g1;have k2:w2.cell? ⟨w.heap.size,2,none⟩=some (.string ⟨#[]⟩):=((j6 hb2).1 _ 2 hz1).trans g2;have z2:∀j,w2.frozen? ⟨w.heap.size,j,none⟩=false:=(fun j=>((j6 hb2).2 _ j hz1).trans (z0 j));have hB2:=v7 (v8 (q9 hB1) hb2);clear hb2 g0 g1 g2 z0))
 refine bodyPost_ret (by simp [results,Tryz.results112,go_sem,k0,k1,k2]<;>rfl) rfl ⟨rfl, ?_⟩
 exact (((q9 hB2).setCell (by simp) _).setCell (by simp) _).setCell (by simp) _
theorem jh6 (s:ByteArray) (hs:s.size≤140737488355328) (en pl:Int) (hrd:qj8 s=.err en pl) (ev:Value) (w:World) (hE:ErrOk w) (hev:∃a n c,ev=.slice a n c) :
  Calls Tryz.prog 112 #[.string s,ev] w fun e w'=>e=.returned (.tuple #[vV nV,.int .i64 en,.int .i64 pl])∧Below w.heap.size w w':=by
 have RD:=v7 (qs7 s (w.alloc (.cells #[.int .i64 0,.int .i64 0,.string ⟨#[]⟩] 118)) (hE.alloc _) hs)
 rw [hrd] at RD
 have hbl:=(Below.refl w.heap.size w).alloc (Nat.le_refl _) (.cells #[.int .i64 0,.int .i64 0,.string ⟨#[]⟩] 118)
 obtain ⟨a,n,c,rfl⟩:=hev
 have hen:(en != 0)=true:=by rcases qs8 hrd with h|h|h|h<;>rw [h]<;>rfl
 have hen':(en==0)=false:=by rcases qs8 hrd with h|h|h|h<;>rw [h]<;>rfl
 clear hrd hE
 go_enter Tryz.func112,Tryz.ntmps112
 go_wp2_with (first|(go_at_call 31;refine (q9 RD).mono ?_;rintro e w1 ⟨hb1,rfl⟩;have hz1:w.heap.size<w1.heap.size:=(by have:=hb1.size;simp at this;omega);have g0:w1.cell? ⟨w.heap.size,0,none⟩=some (.int .i64 0):=((j6 hb1).1 _ 0 (by simp)).trans (by simp);have g1:w1.cell? ⟨w.heap.size,1,none⟩=some (.int .i64 0):=((j6 hb1).1 _ 1 (by simp)).trans (by simp);have g2:w1.cell? ⟨w.heap.size,2,none⟩=some (.string ⟨#[]⟩):=((j6 hb1).1 _ 2 (by simp)).trans (by simp);have z0:∀j,w1.frozen? ⟨w.heap.size,j,none⟩=false:=(fun j=>((j6 hb1).2 _ j (by simp)).trans (by simp));have hB1:=v7 (v8 hbl hb1);clear hb1))
 refine bodyPost_ret (by simp [results,Tryz.results112,go_sem,g0,g1,g2]<;>rfl) rfl ⟨rfl, ?_⟩
 exact (((q9 hB1).setCell (by simp) _).setCell (by simp) _).setCell (by simp) _
structure Ans where
 val:V
 errno:Int
 place:Int
def jh4 (s:ByteArray) (ps:List Pr):Ans:=match qj8 s with
 | .err en pl=>⟨nV,en,pl⟩
 | .ok t=>if ve2 ps then ⟨ofA ps t,0,0⟩ else ⟨nV,7,0⟩
theorem eval_any (s:ByteArray) (hs:s.size≤140737488355328) (ps:List Pr) (ev:Value) (w:World) (hE:ErrOk w) (hev:EvIn w ev ps) (hg:EvGood ps) :
  Calls Tryz.prog 112 #[.string s,ev] w fun e w'=>e=.returned (.tuple #[vV (jh4 s ps).val,.int .i64 (jh4 s ps).errno,.int .i64 (jh4 s ps).place])∧Below w.heap.size w w':=by
 unfold jh4
 cases hrd:qj8 s with
 | err en pl=>exact jh6 s hs en pl hrd ev w hE hev.slice
 | ok t=>
  cases hok:ve2 ps with
  | true=>exact jw0 s hs t hrd ps ev w hE hev hg hok
  | false=>exact jh5 s hs t hrd ps ev w hE hev hg hok
end
section
def vh5 (ms:List Mg) (y:Mg) (k:Nat):List Mg:=(ms.set 0 y).take k
def popM (ms:List Mg):List Mg:=match ms.getLast? with
 | some y=>je0 (vh5 ms y (ms.length - 1)) 0
 | none=>[]
theorem HpAt.cut {w:World} {hb ho g cap k:Nat} {ms:List Mg} (h:HpAt w hb ho g cap ms) (hk:ms.length=k+1) {x:Mg} (hx:ms[0]?=some x) (y:Mg) :
  HpAt (((w.setCell ⟨g,0,none⟩ (.int .i64 y.pri)).setCell ⟨g,1,none⟩ (.int .i64 y.num)).setCell ⟨hb,ho,none⟩ (.slice (some ⟨g,0,none⟩) k cap)) hb ho g cap (vh5 ms y k):=by
 obtain ⟨c,fz,ne,lt,glt,cells,gfz,blk,room⟩:=h
 obtain ⟨x0,x1⟩:=cells 0 x hx
 have hlen:(vh5 ms y k).length=k:=by unfold vh5;rw [List.length_take,List.length_set];omega
 simp only [Nat.zero_mul,Nat.zero_add] at x0 x1
 refine ⟨by rw [hlen];simp [go_sem,c],by simp [go_sem,fz],ne,by simpa using lt,by simpa using glt,fun i m hm=>?_,fun j=>by simp [go_sem,gfz], ?_,by rw [hlen];omega⟩
 ·have hi:i<k:=by have:=(List.getElem?_eq_some_iff.1 hm).1;omega
  unfold vh5 at hm
  rw [List.getElem?_take,if_pos hi] at hm
  by_cases h0:i=0
  ·subst h0
   rw [List.getElem?_set_self (by omega)] at hm
   simp at hm
   subst hm
   constructor<;>simp [go_sem,x0,x1]
  ·rw [List.getElem?_set_ne (fun e=>h0 e.symm)] at hm
   obtain ⟨m0,m1⟩:=cells i m hm
   constructor<;>simp [go_sem,m0,m1]
 ·exact ((blk.set _ _).set _ _).same (Below.heap_setCell _ ⟨hb,ho,none⟩ _ g (by show g≠hb;exact ne))
theorem jd8 {w:World} {b o:Nat} {v:Value} (h:w.cell? ⟨b,o,none⟩=some v):(w.setCell ⟨b,o,none⟩ v).heap[b]?=w.heap[b]?:=by
 simp only [World.cell?] at h
 simp only [World.setCell,Array.getElem?_modify,if_true]
 cases hb:w.heap[b]? with
 | none=>rfl
 | some obj=>
  rw [hb] at h
  cases obj with
  | cells cs ty fr=>
   simp at h
   simp only [Option.map_some]
   congr 2
   apply Array.ext_getElem?
   intro i
   simp only [Option.isSome_none,Bool.false_eq_true,if_false]
   rw [Array.getElem?_setIfInBounds]
   split
   ·rename_i e
    subst e
    split
    ·exact h.symm
    ·rename_i hlt
     rw [Array.getElem?_eq_none (by omega)] at h
     cases h
   ·rfl
  | _=>simp at h
theorem HqAt.below {w w':World} {hb ho base:Nat} {v:Value} {ms:List Mg} (h:HqAt w hb ho v base ms) (hB:Below w.heap.size w w'):HqAt w' hb ho v base ms:=by
 obtain ⟨hc,hf⟩:=j6 hB
 exact ⟨(hc hb ho h.lt).trans h.c,(hf hb ho h.lt).trans h.fz,Nat.lt_of_lt_of_le h.lt hB.size,qf0 h.own hB (Nat.le_refl _),h.ne⟩
def vi6 (hb ho base:Nat) (v:Value) (ms:List Mg) (w:World) (e:Ending) (w':World):Prop:=∃v' m,e=.returned (.tuple #[mgV m,.bool (decide (0<ms.length))])∧m=(ms.head?).getD ⟨0,0⟩∧HqAt w' hb ho v' base (popM ms)∧PqKept hb ho v v' w w'
theorem pop_none (hb ho base:Nat) (v:Value) (w:World) (h:HqAt w hb ho v base []):Calls Tryz.prog 46 #[.pointer (some ⟨hb,ho,none⟩)] w (vi6 hb ho base v [] w):=by
 have H0:=v7 h
 have c:=h.c
 have lt:=h.lt
 obtain ⟨a,cp,rfl⟩:=h.form
 have hlt1:hb<w.heap.size+1:=by omega
 clear h
 simp only [List.length_nil] at c ⊢
 go_enter Tryz.func46,Tryz.ntmps46
 go_wp2_with fail
 refine bodyPost_ret (by simp [results,Tryz.results46,go_sem]<;>rfl) rfl ⟨.slice a 0 cp,⟨0,0⟩,rfl,rfl,(q9 H0).below ((Below.refl _ _).alloc (Nat.le_refl _) _), ?_⟩
 refine ⟨rfl,rfl,rfl,by simp,fun k h1 _ _=>Below.heap_alloc w _ k h1, ?_,fun k h=>.inl h⟩
 rw [jd8 c]
 exact Below.heap_alloc w _ hb lt
theorem vg6 (n:Nat):∀(ms:List Mg) (k:Nat),(vn3 n ms k).length=ms.length:=by
 induction n with
 | zero=>intro ms k;rfl
 | succ n ih=>
  intro ms k
  rw [vn3]
  split
  ·rfl
  ·split
   ·rw [ih];simp
   ·rfl
def popW (w:World) (hb ho g cap k:Nat) (x y:Mg):World:=
 (((((w.setCell ⟨g,0,none⟩ (.int .i64 y.pri)).setCell ⟨g,1,none⟩ (.int .i64 y.num)).setCell ⟨hb,ho,none⟩ (.slice (some ⟨g,0,none⟩) k cap)).alloc (.cells #[.int .i64 0,.int .i64 0] 102)).alloc (.cells #[.int .i64 x.pri,.int .i64 x.num] 102)).drew.drew
theorem popW_kept {w w':World} {hb ho g cap k n:Nat} {x y:Mg} (hne:g≠hb) (hlt:hb<w.heap.size) (hk:Kept g (popW w hb ho g cap k x y) w') (u0 u1:Value) :
  PqKept hb ho (.slice (some ⟨g,0,none⟩) n cap) (.slice (some ⟨g,0,none⟩) k cap) w ((w'.setCell ⟨w.heap.size,0,none⟩ u0).setCell ⟨w.heap.size,1,none⟩ u1):=by
 have hz:(popW w hb ho g cap k x y).heap.size=w.heap.size+2:=by simp [popW]
 have hz':=hk.size
 have hset:∀i,i<w.heap.size→((w'.setCell ⟨w.heap.size,0,none⟩ u0).setCell ⟨w.heap.size,1,none⟩ u1).heap[i]?=w'.heap[i]?:=fun i hi=>
  (Below.heap_setCell _ ⟨w.heap.size,1,none⟩ u1 i (by show i≠w.heap.size;omega)).trans (Below.heap_setCell _ ⟨w.heap.size,0,none⟩ u0 i (by show i≠w.heap.size;omega))
 have hpw:∀i,i<w.heap.size→i≠g→(popW w hb ho g cap k x y).heap[i]?=(w.setCell ⟨hb,ho,none⟩ (.slice (some ⟨g,0,none⟩) k cap)).heap[i]?:=by
  intro i hi hig
  show ((((w.setCell ⟨g,0,none⟩ (.int .i64 y.pri)).setCell ⟨g,1,none⟩ (.int .i64 y.num)).setCell ⟨hb,ho,none⟩ (.slice (some ⟨g,0,none⟩) k cap)).alloc (.cells #[.int .i64 0,.int .i64 0] 102)).alloc (.cells #[.int .i64 x.pri,.int .i64 x.num] 102) |>.heap[i]?=_
  rw [Below.heap_alloc _ _ i (by simp;omega),Below.heap_alloc _ _ i (by simp;omega)]
  have hgi:¬g=i:=fun e=>hig e.symm
  simp only [World.setCell,Array.getElem?_modify,hgi,if_false]
 refine ⟨hk.os,hk.tape,hk.output,by simp;omega,fun i h1 h2 h3=>?_, ?_,fun i h=>.inl h⟩
 ·have hig:i≠g:=fun e=>h3 (by rw [e];rfl)
  rw [hset i h1,hk.block i (by omega) hig,hpw i h1 hig]
  exact Below.heap_setCell w ⟨hb,ho,none⟩ _ i (by show i≠hb;exact h2)
 ·rw [hset hb hlt,hk.block hb (by omega) (fun e=>hne e.symm),hpw hb hlt (fun e=>hne e.symm)]
theorem pop_some (hb ho base g cap k:Nat) (ms:List Mg) (hk:ms.length=k+1) (hn:ms.length≤90) (x y:Mg) (hx:ms[0]?=some x) (hy:ms[k]?=some y) (w:World) (h:HqAt w hb ho (.slice (some ⟨g,0,none⟩) (k+1) cap) base ms)
  (Q:Ending→World→Prop) (hQ:∀e w',vi6 hb ho base (.slice (some ⟨g,0,none⟩) (k+1) cap) ms w e w'→Q e w') :
  Calls Tryz.prog 46 #[.pointer (some ⟨hb,ho,none⟩)] w Q:=by
 obtain ⟨hp,hbg,heq⟩:=h.hp
 clear heq
 have hcut:=hp.cut hk hx y
 have hpop:popM ms=je0 (vh5 ms y k) 0:=by
  have hl:ms.getLast?=some y:=by rw [List.getLast?_eq_getElem?,hk];exact hy
  unfold popM
  rw [hl,hk]
  rfl
 have hdec:decide (0<ms.length)=true:=decide_eq_true (by omega)
 have hhead:x=(ms.head?).getD ⟨0,0⟩:=by rw [List.head?_eq_getElem?,hx];rfl
 have HE:Hid (∀w6 u0 u1,HpAt w6 hb ho g cap (je0 (vh5 ms y k) 0)→Kept g (popW w hb ho g cap k x y) w6→Q (.returned (.tuple #[mgV x,.bool true])) ((w6.setCell ⟨w.heap.size,0,none⟩ u0).setCell ⟨w.heap.size,1,none⟩ u1)):=v7 (by
  intro w6 u0 u1 h6 k6
  apply hQ
  have hsl:(je0 (vh5 ms y k) 0).length=k:=by rw [je0,vg6];unfold vh5;rw [List.length_take,List.length_set];omega
  have hq:=h6.hq hbg
  rw [hsl] at hq
  have hlt:=hp.lt
  have hglt:=hp.glt
  have hb6:Below w.heap.size w6 ((w6.setCell ⟨w.heap.size,0,none⟩ u0).setCell ⟨w.heap.size,1,none⟩ u1):=((Below.refl _ _).setCell (by exact Nat.le_refl _) _).setCell (by exact Nat.le_refl _) _
  refine ⟨_,x,by rw [hdec],hhead, ?_,popW_kept hp.ne hlt k6 u0 u1⟩
  rw [hpop]
  refine ⟨(hb6.cell (p:=⟨hb,ho,none⟩) hlt).trans hq.c,(hb6.frozen (p:=⟨hb,ho,none⟩) hlt).trans hq.fz,Nat.lt_of_lt_of_le hq.lt hb6.size, ?_,hq.ne⟩
  refine j3 hq.own fun g' hg'=>?_
  have e:g=g':=by simpa [Value.ownBlock] using hg'
  subst e
  exact hb6.block g hglt)
 have HS:Hid _:=v7 (sink_any hb ho g cap (vh5 ms y k) (by unfold vh5;rw [List.length_take,List.length_set];omega) (popW w hb ho g cap k x y) (hcut.below (((Below.refl _ _).alloc (Nat.le_refl _) _).alloc (by simp) _).drew.drew))
 have CELLS:Hid (∀w6,Kept g (popW w hb ho g cap k x y) w6→w6.cell? ⟨w.heap.size+1,0,none⟩=some (.int .i64 x.pri)∧w6.cell? ⟨w.heap.size+1,1,none⟩=some (.int .i64 x.num)∧w6.cell? ⟨w.heap.size,0,none⟩=some (.int .i64 0)∧w6.cell? ⟨w.heap.size,1,none⟩=some (.int .i64 0)∧(∀j,w6.frozen? ⟨w.heap.size,j,none⟩=false)∧w.heap.size+1<w6.heap.size):=v7 (by
  intro w6 k6
  have hz:(popW w hb ho g cap k x y).heap.size=w.heap.size+2:=by simp [popW]
  have hglt:=hp.glt
  obtain ⟨hc,hf⟩:=x5 k6
  refine ⟨(hc _ 0 (by omega) (by omega)).trans ?_,(hc _ 1 (by omega) (by omega)).trans ?_,(hc _ 0 (by omega) (by omega)).trans ?_,(hc _ 1 (by omega) (by omega)).trans ?_,fun j=>(hf _ j (by omega) (by omega)).trans ?_,by have:=k6.size;omega⟩<;>simp [popW,go_sem])
 obtain ⟨c,fz,ne,lt,glt,cells,gfz,blk,room⟩:=hp
 obtain ⟨x0,x1⟩:=cells 0 x hx
 obtain ⟨y0,y1⟩:=cells k y hy
 simp only [Nat.zero_mul,Nat.zero_add] at x0 x1
 rw [hk] at c
 have hw:IntKind.i64.wrap (((k+1:Nat):Int) - 1)=(k:Int):=by rw [IntKind.wrap_i64];omega
 have hw':(((k+1:Nat):Int) - 1)=(k:Int):=by omega
 have k0:(0:Int)≤(k:Int):=by omega
 have k1:(k:Int)<((k+1:Nat):Int):=by omega
 have k2:(k:Int)≤(cap:Int):=by omega
 have kb:k≤90:=by omega
 have kz:(((k+1:Nat):Int)==0)=false:=beq_eq_false_iff_ne.2 (by omega)
 have l1:hb<w.heap.size+1:=by omega
 have l2:g<w.heap.size+1:=by omega
 have l3:hb<w.heap.size+1+1:=by omega
 have l4:g<w.heap.size+1+1:=by omega
 have d1:¬g=w.heap.size:=by omega
 have d2:¬hb=w.heap.size:=by omega
 have d3:¬g=w.heap.size+1:=by omega
 have d4:¬hb=w.heap.size+1:=by omega
 clear cells blk h hcut hpop hdec hhead hx hy hQ hbg room hk
 unfold popW at HS
 go_enter Tryz.func46,Tryz.ntmps46
 go_wp2_with fail
 go_region
 all_goals go_wp2_with fail
 all_goals go_region
 all_goals go_wp2_with (go_at_call 72;refine (q9 HS).mono ?_;rintro e w6 ⟨rfl,h6,k6⟩;obtain ⟨q0,q1,q2,q3,qf,ql⟩:=q9 CELLS w6 k6;have H6:=v7 h6;have K6:=v7 k6;clear h6 k6)
 all_goals exact bodyPost_ret (by simp [results,Tryz.results46,go_sem,q2,q3]<;>rfl) rfl (q9 HE _ _ _ (q9 H6) (q9 K6))
end
section
variable {P:Program}
def qh9 (cur:Array Value) (o:Nat) (cs:List Value):Array Value:=(cur.toList.take o++cs++cur.toList.drop (o+cs.length)).toArray
theorem qr1 {cur:Array Value} {o:Nat} {cs:List Value} (h:o+cs.length≤cur.size):(qh9 cur o cs).size=cur.size:=by
 simp [qh9]
 omega
theorem qk1 (cur:Array Value) (o:Nat) (cs:List Value):(qh9 cur o cs).toList=cur.toList.take o++cs++cur.toList.drop (o+cs.length):=by
 simp [qh9]
theorem qq4 (w:World) (dT sT ty elem:TypeId) (K g o dLen dCap n:Nat) (a:Addr) (sLen sCap:Nat) (cur:Array Value) (t:TypeId) (cs:List Value)
  (hu:P.underlying dT=some (.slice elem)) (hs:(P.info? elem).map (·.size)=some K)
  (hg:w.heap[g]?=some (.cells cur t (0,0))) (hn:n=Nat.min sLen dLen) (hl:cs.length=n * K)
  (hsrc:∀j v,cs[j]?=some v→w.cell? (a.add j)=some v) (hfit:o+cs.length≤cur.size) (h1:∀v∈cs,v.oneCell'=true) :
  (Builtin.copy_ #[dT,sT] ty #[.slice (some ⟨g,o,none⟩) dLen dCap,.slice (some a) sLen sCap]).run P w=.ok (goInt n) (w.setRow g (qh9 cur o cs)):=by
 have hld:=run_loadCells_list (P:=P) w a cs hsrc
 have hst:=run_storeCells_at P g o t cs 0 cur w hg (by simpa using hfit) h1
 simp only [Nat.add_zero] at hst
 cases hq:P.info? elem with
 | none=>simp [hq] at hs
 | some i=>
  have hi:i.size=K:=by simpa [hq] using hs
  simp [Builtin.copy_,run_underlying hu,Builtin.lenOf,Builtin.firstCells,sizeOf,typeInfo,hq,hi,←hn,←hl,hld,hst,qh9]
theorem vh4 (w:World) (t ty elem:TypeId) (i0:TypeInfo) (K g n cap m c:Nat) (a:Addr) (cur:Array Value) (tt:TypeId) (cs:List Value)
  (hu:P.underlying t=some (.slice elem)) (hi:P.info? elem=some i0) (hk:i0.size=K)
  (hg:w.heap[g]?=some (.cells cur tt (0,0))) (hl:cs.length=m * K) (hroom:n+m≤cap)
  (hsrc:∀j v,cs[j]?=some v→w.cell? (a.add j)=some v) (hfit:n * K+cs.length≤cur.size) (h1:∀v∈cs,v.oneCell'=true) :
  (Builtin.append_ #[t,t] ty #[.slice (some ⟨g,0,none⟩) n cap,.slice (some a) m c]).run P w=.ok (.slice (some ⟨g,0,none⟩) (n+m) cap) (w.setRow g (qh9 cur (n * K) cs)):=by
 have hld:=run_loadCells_list (P:=P) w a cs hsrc
 have hst:=run_storeCells_at P g (n * K) tt cs 0 cur w hg (by simpa using hfit) h1
 simp only [Nat.add_zero] at hst
 have hadd:(⟨g,0,none⟩:Addr).add (n * K)=⟨g,n * K,none⟩:=by unfold Addr.add;split<;>simp_all
 simp [Builtin.append_,run_underlying hu,Builtin.lenOf,Builtin.firstCells,sizeOf,typeInfo,hi,hk,hroom,←hl,hld,hadd,hst,qh9]
theorem qx1 (z:Array Value) (n:Nat):(Builtin.zeroCells z n).toList.length=n * z.size:=by simp [Builtin.zeroCells]
theorem vz0 {z:Array Value} (n:Nat) (h:∀v∈z,v.oneCell'=true):∀v∈(Builtin.zeroCells z n).toList,v.oneCell'=true:=by
 intro v hv
 simp [Builtin.zeroCells] at hv
 obtain ⟨i,hi,rfl⟩:=hv
 have hz:0<z.size:=by
  rcases Nat.eq_zero_or_pos z.size with e|e
  ·rw [e] at hi;omega
  ·exact e
 have:=Nat.mod_lt i hz
 rw [getElem!_pos z (i % z.size) this]
 exact h _ (Array.getElem_mem _)
theorem za8 (w:World) (t elem ty:TypeId) (z:Value) (K g o n c:Nat) (cur:Array Value) (tt:TypeId)
  (hu:P.underlying t=some (.slice elem)) (hv:∀w,(zeroValue elem).run P w=.ok z w) (hzs:z.cells.size=K) (h1:∀v∈z.cells,v.oneCell'=true)
  (hg:w.heap[g]?=some (.cells cur tt (0,0))) (hfit:o+(n+1) * K≤cur.size) :
  (Builtin.clear_ #[t] ty #[.slice (some ⟨g,o,none⟩) (n+1) c]).run P w=.ok (.tuple #[]) (w.setRow g (qh9 cur o (Builtin.zeroCells z.cells (n+1)).toList)):=by
 have hst:=run_storeCells_at P g o tt (Builtin.zeroCells z.cells (n+1)).toList 0 cur w hg (by rw [qx1,hzs];simpa using hfit) (vz0 _ h1)
 simp only [Nat.add_zero] at hst
 simp [Builtin.clear_,run_underlying hu,hv,hst,qh9]
theorem qe5 {w:World} {base:Nat} {e:TypeId} {size g n cap:Nat} {xs:List Value} (h:w.ownsRow base e size (.slice (some ⟨g,0,none⟩) n cap) n xs):base≤g∧n≤cap∧cap≤maxLen∧∃cur,w.heap[g]?=some (.cells cur e (0,0))∧cur.size=cap * size∧cur.toList.take (n * size)=xs:=by
 rcases h.2 with ⟨hv,_⟩|⟨g',cap',cur0,hv,hb,hh,hnc,hcm,hcs,hx⟩
 ·simp at hv
 ·simp at hv
  obtain ⟨rfl,rfl⟩:=hv
  exact ⟨hb,hnc,hcm,cur0,hh,hcs,hx⟩
theorem qh2 (w:World) (g:Nat) (cur:Array Value):w.grownBy (w.setRow g cur) (some g):=⟨rfl,rfl,rfl,by simp,fun k _ hk=>setRow_other w g k cur (fun e=>hk (by rw [e]))⟩
theorem qv3 {a b c:World} {r:Option Nat} (h:a.grownBy b r) (k:b.grownBy c r):a.grownBy c r:=⟨k.os.trans h.os,k.tape.trans h.tape,k.output.trans h.output,Nat.le_trans h.size k.size,fun i h1 h2=>(k.block i (Nat.lt_of_lt_of_le h1 h.size) h2).trans (h.block i h1 h2)⟩
theorem jj1 {a b c:World} {r:Option Nat} {g:Nat} (h:a.grownBy b r) (k:b.grownBy c (some g)) (hg:a.heap.size≤g):a.grownBy c r:=⟨k.os.trans h.os,k.tape.trans h.tape,k.output.trans h.output,Nat.le_trans h.size k.size,fun i h1 h2=>(k.block i (Nat.lt_of_lt_of_le h1 h.size) (fun e=>by simp at e;omega)).trans (h.block i h1 h2)⟩
end
end Go.Proofs.YtfkcaldjphakpabGreatDoor
