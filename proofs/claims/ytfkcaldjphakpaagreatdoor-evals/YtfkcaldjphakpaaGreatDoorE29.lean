/- value.Like; join: IN and LIKE. join: IN and LIKE. Of, of every term that is read. Eval of any text and any list of properties. The laws by the document's answer: an event with spare room behind it: copy of rows whose elements have several cells. The laws by the document's answer: an event with spare room behind it, and whether it is still as it was. The laws by the document's answer: event, still. The laws by the document's answer: still. A list of properties as an argument of a law. A script of steps as an argument of a law. The document's answer: does a pattern fit? The document's answer: what a node is, if its operands are those: IN. The document's answer: which values and names an event may have; a name's value. The document's answer: which lists of properties are events. The document's answer: a name's value; is it a pattern. The words, numbers and patterns of what is read are as a text has them. The laws by the document's answer: UpTo over any steps that leave what the script has made as it must be. -/
import Derived.Test.YtfkcaldjphakpaaGreatDoorE08
import Derived.Deep.RegionWith
import Derived.Test.YtfkcaldjphakpaaGreatDoorE26
import Derived.Test.YtfkcaldjphakpaaGreatDoorE21
import Derived.Test.YtfkcaldjphakpaaGreatDoorE25
import Derived.Test.YtfkcaldjphakpaaGreatDoorShelf
import Derived.Laws.CopyRow
import Derived.Deep.OwnRows
import Derived.Deep.QuietTactic
import Derived.BigQuiet
import Derived.OwnWalk
import Derived.WalkKit
import Derived.ProofKit
import Derived.Deep.Slices
import Derived.Deep.Strs
import Derived.SizedLaws
import Derived.WideKeyArgs
import Derived.Laws.Rows
import Derived.Lib.SmallJoins
import Derived.Test.YtfkcaldjphakpaaGreatDoorE24
import Derived.Deep.DeepCutAuto
import Derived.Deep.RegionHeld3
import Derived.Test.YtfkcaldjphakpaaGreatDoorE10
set_option maxHeartbeats 8000000
set_option maxRecDepth 100000
namespace Go.Proofs.YtfkcaldjphakpaaGreatDoor
open Go.RowKit
section
theorem vLike_any (x:V) (pat esc:ByteArray) (hp:pat.size≤200) (hx:x.str.length≤1000) (w:World) :
  Calls Tryz.prog 109 #[vV x,.string pat,.string esc] w fun e w'=>e=.returned (vV (vh3 x pat.data.toList esc.data.toList))∧Below w.heap.size w w':=by
 unfold vh3
 have FIT:=v7 (fun w=>fits_any pat esc (BS x.str) hp (by rw [qi8];exact hx) w)
 cases hk:(x.kind==3)
 ·have hk':(x.kind != 3)=true:=by simp only [bne,hk];rfl
  simp only [Bool.false_eq_true,if_false]
  conv=>arg 3;simp only [vV]
  go_enter Tryz.func109,Tryz.ntmps109
  go_wp2_with (go_at_call 152;refine (qd7 _).mono ?_;rintro e w' ⟨rfl,hb⟩;obtain ⟨hc,hf⟩:=v9 hb;simp only [vV])
  refine bodyPost_ret (by simp [results,Tryz.results109,go_sem,hc]<;>rfl) rfl ⟨rfl, ?_⟩
  exact ((((v8 (qb2 _ _ _) hb).setCell (by simp) _).setCell (by simp) _).setCell (by simp) _)
 ·have hk':(x.kind != 3)=false:=by simp only [bne,hk];rfl
  simp only [if_true]
  obtain ⟨r,hr⟩:∃r,vn9 pat.data.toList esc.data.toList x.str=r:=⟨_,rfl⟩
  have HR:Hid (vn9 pat.data.toList esc.data.toList (BS x.str).data.toList=r):=v7 (by rw [qm6];exact hr)
  rw [hr]
  clear hr
  conv=>arg 3;simp only [vV]
  go_enter Tryz.func109,Tryz.ntmps109
  go_wp2_with (first|(go_at_call 156;refine (q9 FIT _).mono ?_;rw [q9 HR];rintro e w1 ⟨rfl,hb1⟩;have hz1:w.heap.size+1<w1.heap.size:=(by have:=hb1.size;simp at this;omega);have g0:w1.cell? ⟨w.heap.size+1,0,none⟩=some (.int .i64 0):=((v9 hb1).1 _ 0 (by simp)).trans (by simp);have g1:w1.cell? ⟨w.heap.size+1,1,none⟩=some (.int .i64 0):=((v9 hb1).1 _ 1 (by simp)).trans (by simp);have g2:w1.cell? ⟨w.heap.size+1,2,none⟩=some (.string ⟨#[]⟩):=((v9 hb1).1 _ 2 (by simp)).trans (by simp);have z1:∀j,w1.frozen? ⟨w.heap.size+1,j,none⟩=false:=(fun j=>((v9 hb1).2 _ j (by simp)).trans (by simp));have hB1:=v7 (v8 (qb2 _ _ _) hb1);clear hb1)|(go_at_call 64;refine (qi1 r _).mono ?_;rintro e w2 ⟨rfl,hb2⟩;have k0:w2.cell? ⟨w.heap.size+1,0,none⟩=some (.int .i64 0):=((v9 hb2).1 _ 0 hz1).trans g0;have k1:w2.cell? ⟨w.heap.size+1,1,none⟩=some (.int .i64 0):=((v9 hb2).1 _ 1 hz1).trans g1;have k2:w2.cell? ⟨w.heap.size+1,2,none⟩=some (.string ⟨#[]⟩):=((v9 hb2).1 _ 2 hz1).trans g2;have z2:∀j,w2.frozen? ⟨w.heap.size+1,j,none⟩=false:=(fun j=>((v9 hb2).2 _ j hz1).trans (z1 j));have hB2:=v7 (v8 (q9 hB1) hb2);clear hb2;simp only [vV]))
  refine bodyPost_ret (by simp [results,Tryz.results109,go_sem,k0,k1,k2]<;>rfl) rfl ⟨rfl, ?_⟩
  exact (((q9 hB2).setCell (by simp) _).setCell (by simp) _).setCell (by simp) _
end
section
theorem joinN_21 (lo:Nat) (t:Ast) (h21:(qb4 t).op=21) (hB:(qb4 t).texts.length≤1000):vb0 lo t:=by
 intro w b x y z _ _ _ _ h
 have hr:qq5 (qb4 t) x y z=qu1 x (qb4 t).texts:=by rw [qq5,if_neg (by rw [h21];decide),if_pos h21]
 rw [hr]
 have AMO:=v7 (fun w1 (h1:IsNode lo w1 (.pointer (some ⟨b,0,none⟩)) t)=>among_any lo t hB w1 b x h1)
 have HND:=v7 h
 obtain ⟨b',sv,hb,hnode,_⟩:=h.parts
 obtain rfl:b=b':=by simpa using hb
 have c0:=hnode.c0
 have c4:=hnode.c4
 have c5:=hnode.c5
 have hbw:=hnode.within
 have m1:b<w.heap.size+1:=by omega
 have m2:b<w.heap.size+1+1:=by omega
 have m3:b<w.heap.size+1+1+1:=by omega
 have d0:¬w.heap.size+1+1+1=w.heap.size:=by omega
 rw [h21] at c0
 have JA0:=v7 (qy1 w x y z)
 obtain ⟨r,hr'⟩:∃r,qu1 x (qb4 t).texts=r:=⟨_,rfl⟩
 rw [hr'] at AMO ⊢
 clear hr hr' hnode hb h h21 c4 c5
 conv=>arg 3;simp only [vV]
 go_enter Tryz.func65,Tryz.ntmps65
 go_wp2_with (go_at_call 108;refine (q9 AMO _ ((q9 HND).kept (Kept.of_below ((x4 _ _ _ _).alloc (by simp;omega) _)))).mono ?_;rintro e w1 ⟨rfl,hb1⟩;have JA1:=v7 ((q9 JA0).next hb1);obtain ⟨x0_1,x1_1,x2_1,y0_1,y1_1,y2_1,z0_1,z1_1,z2_1,r0_1,r1_1,r2_1,fz_1,lt_1,bel_1⟩:=q9 JA1;clear hb1;simp only [vV])
 refine bodyPost_ret (by simp [results,Tryz.results65,go_sem,r0_1,r1_1,r2_1]<;>rfl) rfl ⟨rfl, ?_⟩
 exact ((bel_1.setCell (by simp;omega) _).setCell (by simp;omega) _).setCell (by simp;omega) _
theorem joinN_22 (lo:Nat) (t:Ast) (h22:(qb4 t).op=22) (hB:(qb4 t).str.length≤200):vb0 lo t:=by
 intro w b x y z _ _ _ hx h
 have hr:qq5 (qb4 t) x y z=vh3 x (qb4 t).str (qb4 t).esc:=by rw [qq5,if_neg (by rw [h22];decide),if_neg (by rw [h22];decide),if_pos h22]
 rw [hr]
 have LIK:=v7 (fun w1=>vLike_any x (BS (qb4 t).str) (BS (qb4 t).esc) (by rw [qi8];exact hB) hx w1)
 simp only [qm6] at LIK
 obtain ⟨b',sv,hb,hnode,_⟩:=h.parts
 obtain rfl:b=b':=by simpa using hb
 have c0:=hnode.c0
 have c4:=hnode.c4
 have c5:=hnode.c5
 have hbw:=hnode.within
 have m1:b<w.heap.size+1:=by omega
 have m2:b<w.heap.size+1+1:=by omega
 have m3:b<w.heap.size+1+1+1:=by omega
 have d0:¬w.heap.size+1+1+1=w.heap.size:=by omega
 rw [h22] at c0
 have JA0:=v7 (qy1 w x y z).drew
 obtain ⟨r,hr'⟩:∃r,vh3 x (qb4 t).str (qb4 t).esc=r:=⟨_,rfl⟩
 rw [hr'] at LIK ⊢
 clear hr hr' hnode hb h h22
 conv=>arg 3;simp only [vV]
 go_enter Tryz.func65,Tryz.ntmps65
 go_wp2_with fail
 go_region_with (go_at_call 109;refine (q9 LIK _).mono ?_;rintro e w1 ⟨rfl,hb1⟩;have JA1:=v7 ((q9 JA0).next hb1);obtain ⟨x0_1,x1_1,x2_1,y0_1,y1_1,y2_1,z0_1,z1_1,z2_1,r0_1,r1_1,r2_1,fz_1,lt_1,bel_1⟩:=q9 JA1;clear hb1;simp only [vV])
 all_goals go_wp2_with fail
 all_goals
  refine bodyPost_ret (by simp [results,Tryz.results65,go_sem,r0_1,r1_1,r2_1]<;>rfl) rfl ⟨rfl, ?_⟩
  exact ((bel_1.setCell (by simp;omega) _).setCell (by simp;omega) _).setCell (by simp;omega) _
end
section
theorem jd8 (op:Int) (x y:V) (hx:Rng x.num) (hy:Rng y.num):qj9 op x y (va1 op x y):=by
 by_cases h14:op=14
 ·subst h14;exact join_14 x y hx
 by_cases h15:op=15
 ·subst h15;exact join_15 x y hx
 exact join_all op h14 h15 x y hx hy
def Sh (v:V):Prop:=v.str.length≤1000
theorem vd9 (b:Bool):Sh (bV b):=Nat.zero_le _
theorem vf5:Sh nV:=Nat.zero_le _
theorem sh_i (n:Int):Sh (iV n):=Nat.zero_le _
theorem qc1 {c:Prop} [Decidable c] {a b:V} (ha:Sh a) (hb:Sh b):Sh (if c then a else b):=by
 split
 ·exact ha
 ·exact hb
theorem sh_join (op:Int) (x y:V):Sh (va1 op x y):=by
 unfold va1
 refine qc1 (qc1 (vd9 _) vf5) (qc1 (qc1 (vd9 _) (qc1 (vd9 _) vf5)) (qc1 (qc1 (vd9 _) (qc1 (vd9 _) vf5)) (qc1 (qc1 vf5 (vd9 _)) (qc1 (qc1 (vd9 _) vf5) (qc1 (qc1 (vd9 _) vf5) (qc1 (qc1 (vd9 _) vf5) (qc1 (qc1 (vd9 _) vf5) (qc1 (qc1 (vd9 _) vf5) (qc1 (qc1 (sh_i _) vf5) (qc1 (qc1 (sh_i _) vf5) (qc1 (qc1 (sh_i _) vf5) (qc1 (qc1 (sh_i _) vf5) (qc1 (qc1 (sh_i _) vf5) (qc1 (qc1 (sh_i _) vf5) (vd9 _)))))))))))))))
theorem sh_or (x y:V):Sh (orV x y):=qc1 (vd9 _) (qc1 (vd9 _) vf5)
theorem sh_among (x:V) (ts:List (List UInt8)):∀f:V,Sh f→Sh (ts.foldl (fun f t=>orV f (eqV x (tV t))) f):=by
 induction ts with
 | nil=>intro f h;exact h
 | cons t r ih=>intro f _;exact ih _ (sh_or _ _)
theorem sh_joinN (p:Pay) (x y z:V):Sh (qq5 p x y z):=by
 unfold qq5
 refine qc1 (qc1 (vd9 _) (qc1 (vd9 _) vf5)) (qc1 (sh_among x _ _ (vd9 _)) (qc1 (qc1 (vd9 _) vf5) (sh_join _ _ _)))
def EvSh (ps:List Pr):Prop:=∀p∈ps,Sh p.val
theorem sh_of {ps:List Pr} (h:EvSh ps) {p:Pay} (hp:p.str.length≤200) (s:List V):Sh (ofN ps p s):=by
 unfold ofN
 refine qc1 ?_ (qc1 (sh_i _) (qc1 ?_ (qc1 (vd9 _) (qc1 (vd9 _) (sh_joinN _ _ _ _)))))
 ·unfold qs6
  split
  ·rename_i q hq;exact h q (List.mem_of_find?_eq_some hq)
  ·exact vf5
 ·show p.str.length≤1000
  omega
theorem vd0 {ps:List Pr} (h:EvSh ps):∀t,vg1 t→Sh (ofA ps t):=by
 intro t
 cases t with
 | leaf p=>intro hn;exact sh_of h hn.1 _
 | un p x=>intro hn;exact sh_of h hn.1.1 _
 | bin p x y=>intro hn;exact sh_of h hn.1.1 _
 | tri p x y z=>intro hn;exact sh_of h hn.1.1 _
theorem vh9 (lo:Nat) (ps:List Pr) (ev:Value) (t:Ast) (hp:Bp (qb4 t)) (hsub:∀x∈j3 t,OfOk lo ps ev x) (hrng:∀x∈j3 t,Rng (ofA ps x).num) (hlen:∀x∈j3 t,(ofA ps x).str.length≤1000):OfOk lo ps ev t:=by
 by_cases h0:(qb4 t).op=0
 ·exact of_0 lo ps ev t h0
 by_cases h1:(qb4 t).op=1
 ·exact of_1 lo ps ev t h1
 by_cases h2:(qb4 t).op=2
 ·exact of_2 lo ps ev t h2
 by_cases h3:(qb4 t).op=3
 ·exact of_3 lo ps ev t h3
 by_cases h4:(qb4 t).op=4
 ·exact of_4 lo ps ev t h4
 refine of_step lo ps ev t hsub hrng hlen ?_ h0 h1 h2 h3 h4
 by_cases h20:(qb4 t).op=20
 ·exact joinN_20 lo t h20
 by_cases h21:(qb4 t).op=21
 ·exact joinN_21 lo t h21 hp.2
 by_cases h22:(qb4 t).op=22
 ·exact joinN_22 lo t h22 hp.1
 exact jd7 lo t h20 h21 h22 (fun x y hx hy=>jd8 _ x y hx hy)
theorem of_every (lo:Nat) (ps:List Pr) (ev:Value) (hev:vk8 ps) (hsh:EvSh ps):∀t,vg1 t→vg2 t→OfOk lo ps ev t:=by
 intro t
 induction t with
 | leaf p=>intro hs hn;exact vh9 lo ps ev _ hs (fun x hx=>by simp [j3] at hx) (fun x hx=>by simp [j3] at hx) (fun x hx=>by simp [j3] at hx)
 | un p x ih=>
  intro hs hn
  refine vh9 lo ps ev _ hs.1 (fun u hu=>?_) (fun u hu=>?_) (fun u hu=>?_)
  ·simp [j3] at hu;subst hu;exact ih hs.2 hn.2
  ·simp [j3] at hu;subst hu;exact qz0 hev _ hn.2
  ·simp [j3] at hu;subst hu;exact vd0 hsh _ hs.2
 | bin p x y ihx ihy=>
  intro hs hn
  refine vh9 lo ps ev _ hs.1 (fun u hu=>?_) (fun u hu=>?_) (fun u hu=>?_)
  ·simp [j3] at hu
   rcases hu with rfl|rfl
   ·exact ihx hs.2.1 hn.2.1
   ·exact ihy hs.2.2 hn.2.2
  ·simp [j3] at hu
   rcases hu with rfl|rfl
   ·exact qz0 hev _ hn.2.1
   ·exact qz0 hev _ hn.2.2
  ·simp [j3] at hu
   rcases hu with rfl|rfl
   ·exact vd0 hsh _ hs.2.1
   ·exact vd0 hsh _ hs.2.2
 | tri p x y z ihx ihy ihz=>
  intro hs hn
  refine vh9 lo ps ev _ hs.1 (fun u hu=>?_) (fun u hu=>?_) (fun u hu=>?_)
  ·simp [j3] at hu
   rcases hu with rfl|rfl|rfl
   ·exact ihx hs.2.1 hn.2.1
   ·exact ihy hs.2.2.1 hn.2.2.1
   ·exact ihz hs.2.2.2 hn.2.2.2
  ·simp [j3] at hu
   rcases hu with rfl|rfl|rfl
   ·exact qz0 hev _ hn.2.1
   ·exact qz0 hev _ hn.2.2.1
   ·exact qz0 hev _ hn.2.2.2
  ·simp [j3] at hu
   rcases hu with rfl|rfl|rfl
   ·exact vd0 hsh _ hs.2.1
   ·exact vd0 hsh _ hs.2.2.1
   ·exact vd0 hsh _ hs.2.2.2
end
section
def EvIn (w:World) (ev:Value) (ps:List Pr):Prop:=
 (ps=[]∧∃a cap,ev=.slice a 0 cap)∨∃b off cap,ev=.slice (some ⟨b,off,none⟩) ps.length cap∧ps.length≤cap∧EvAt w b off ps∧b<w.heap.size
theorem EvIn.below {w w':World} {ev:Value} {ps:List Pr} (h:EvIn w ev ps) (hb:Below w.heap.size w w'):EvIn w' ev ps:=by
 rcases h with h|⟨b,off,cap,rfl,hc,he,hlt⟩
 ·exact .inl h
 ·exact .inr ⟨b,off,cap,rfl,hc,he.below hb hlt,Nat.lt_of_lt_of_le hlt hb.size⟩
theorem EvIn.slice {w:World} {ev:Value} {ps:List Pr} (h:EvIn w ev ps):∃a n c,ev=.slice a n c:=by
 rcases h with ⟨_,a,cap,rfl⟩|⟨b,off,cap,rfl,_⟩
 ·exact ⟨_,_,_,rfl⟩
 ·exact ⟨_,_,_,rfl⟩
theorem EvIn.arg {w:World} {ev:Value} {ps:List Pr} (h:EvIn w ev ps) (h8:ps.length≤8):EvArg w ev ps:=by
 refine ⟨h8, ?_⟩
 rcases h with h|⟨b,off,cap,rfl,hc,he,hlt⟩
 ·exact .inl h
 ·exact .inr ⟨b,off,cap,rfl,he,hlt⟩
structure EvGood (ps:List Pr):Prop where
 short:Short ps
 rng:vk8 ps
 len:ps.length≤140737488355328
theorem jb3 {w:World} {ev:Value} {ps:List Pr} (h:EvIn w ev ps) (hg:EvGood ps) :
  Calls Tryz.prog 37 #[ev] w fun e w'=>e=.returned (.bool (qz5 ps))∧Below w.heap.size w w':=by
 rcases h with ⟨rfl,a,cap,rfl⟩|⟨b,off,cap,rfl,hc,he,hlt⟩
 ·exact vy5 a cap w
 ·exact vu2 b off cap ps w hc hg.len hg.short he hlt
theorem evOk_8 {ps:List Pr} (h:qz5 ps=true):ps.length≤8:=by
 apply Decidable.byContradiction
 intro hn
 rw [vn4 hn] at h
 cases h
theorem evOk_at {ps:List Pr} (h:qz5 ps=true) {p:Pr} (hp:p∈ps):qi2 p.name=true∧qx5 p.val=true:=by
 obtain ⟨k,hk⟩:=List.getElem?_of_mem hp
 unfold qz5 at h
 rw [Bool.and_eq_true,List.all_eq_true] at h
 obtain ⟨hlt,_⟩:=List.getElem?_eq_some_iff.1 hk
 have:=h.2 k (List.mem_range.2 hlt)
 unfold vd3 at this
 rw [hk] at this
 simp only [Bool.and_eq_true] at this
 exact this.1
theorem valOk_str {v:V} (h:qx5 v=true):v.str.length≤20:=by
 apply Decidable.byContradiction
 intro hn
 have he:v.str.isEmpty=false:=by cases hs:v.str with
  | nil=>rw [hs] at hn;simp at hn
  | cons c t=>rfl
 have hd:decide (v.str.length≤20)=false:=decide_eq_false hn
 simp only [qx5,he,hd,Bool.and_false,Bool.false_eq_true,ite_self] at h
theorem vu1 {ps:List Pr} (h:qz5 ps=true):EvSh ps:=fun p hp=>Nat.le_trans (valOk_str (evOk_at h hp).2) (by decide)
theorem qw5 {s:ByteArray} {t:Ast} (h:qq1 s=.ok t):vg2 t∧vg1 t:=by
 unfold qq1 at h
 by_cases hs:s.size≤200
 ·rw [if_pos hs] at h
  cases he:(lvl s 12).E (v6 s st0) with
  | err en pl=>rw [he] at h;cases h
  | ok t1 st=>
   rw [he] at h
   change endR t1 st=_ at h
   have:t1=t:=by
    unfold endR at h
    split at h
    ·split at h
     ·injection h
     ·cases h
    ·cases h
   subst this
   exact ⟨((lvl_num s 12).E _ _ _ (qd5 s st0) he).1,((lvl_bnd s hs 12).E _ _ _ (qd1 hs st0) he).1⟩
 ·rw [if_neg hs] at h;cases h
theorem jc9 (s:ByteArray) (hs:s.size≤140737488355328) (t:Ast) (hrd:qq1 s=.ok t) (ps:List Pr) (ev:Value) (w:World) (hE:ErrOk w)
  (hev:EvIn w ev ps) (hg:EvGood ps) (hok:qz5 ps=true) :
  Calls Tryz.prog 23 #[.string s,ev] w fun e w'=>e=.returned (.tuple #[vV (ofA ps t),.int .i64 0,.int .i64 0])∧Below w.heap.size w w':=by
 have hof:∀lo,OfOk lo ps ev t:=fun lo=>of_every lo ps ev hg.rng (vu1 hok) t (qw5 hrd).2 (qw5 hrd).1
 have hlen:(ofA ps t).str.length≤281474976710656:=Nat.le_trans (vd0 (vu1 hok) t (qw5 hrd).2) (by decide)
 have RD:=v7 (vi9 s (w.alloc (.cells #[.int .i64 0,.int .i64 0,.string ⟨#[]⟩] 26)) (hE.alloc _) hs)
 rw [hrd] at RD
 have hbl:=(Below.refl w.heap.size w).alloc (Nat.le_refl _) (.cells #[.int .i64 0,.int .i64 0,.string ⟨#[]⟩] 26)
 have EVA:=v7 (hev.below hbl)
 obtain ⟨a,n,c,rfl⟩:=hev.slice
 have HV:=v7 (fun w1 (h:EvIn w1 (.slice a n c) ps)=>jb3 h hg)
 rw [hok] at HV
 have HOF:=v7 hof
 have HB8:=v7 (evOk_8 hok)
 obtain ⟨r,hr⟩:∃r,ofA ps t=r:=⟨_,rfl⟩
 rw [hr] at hlen ⊢
 have HR:=v7 hr
 have hzs:=qi8 r.str
 have hcl:(BS r.str).size≤281474976710656:=by omega
 clear hrd hE hg hev hok hof hr hlen hzs
 go_enter Tryz.func23,Tryz.ntmps23
 go_wp2_with (first|(go_at_call 36;refine (q9 RD).mono ?_;rintro e w1 ⟨hb1,v1,rfl,hn1⟩;obtain ⟨vb,rfl⟩:=hn1.ptr;have hz1:w.heap.size<w1.heap.size:=(by have:=hb1.size;simp at this;omega);have EV1:=v7 ((q9 EVA).below hb1);have g0:w1.cell? ⟨w.heap.size,0,none⟩=some (.int .i64 0):=((v9 hb1).1 _ 0 (by simp)).trans (by simp);have g1:w1.cell? ⟨w.heap.size,1,none⟩=some (.int .i64 0):=((v9 hb1).1 _ 1 (by simp)).trans (by simp);have g2:w1.cell? ⟨w.heap.size,2,none⟩=some (.string ⟨#[]⟩):=((v9 hb1).1 _ 2 (by simp)).trans (by simp);have z0:∀j,w1.frozen? ⟨w.heap.size,j,none⟩=false:=(fun j=>((v9 hb1).2 _ j (by simp)).trans (by simp));have hB1:=v7 (v8 hbl hb1);have hN1:=v7 hn1;clear hb1 hn1)|(go_at_call 37;refine (q9 HV _ (q9 EV1)).mono ?_;rintro e w2 ⟨rfl,hb2⟩;have hz2:w.heap.size<w2.heap.size:=(by have:=hb2.size;omega);have EV2:=v7 ((q9 EV1).below hb2);have k0:w2.cell? ⟨w.heap.size,0,none⟩=some (.int .i64 0):=((v9 hb2).1 _ 0 hz1).trans g0;have k1:w2.cell? ⟨w.heap.size,1,none⟩=some (.int .i64 0):=((v9 hb2).1 _ 1 hz1).trans g1;have k2:w2.cell? ⟨w.heap.size,2,none⟩=some (.string ⟨#[]⟩):=((v9 hb2).1 _ 2 hz1).trans g2;have z2:∀j,w2.frozen? ⟨w.heap.size,j,none⟩=false:=(fun j=>((v9 hb2).2 _ j hz1).trans (z0 j));have hN2:=v7 ((q9 hN1).kept (Kept.of_below hb2));have hB2:=v7 (v8 (q9 hB1) hb2);clear hb2 g0 g1 g2 z0)|(go_at_call 38;refine (q9 HOF _ _ _ (q9 hN2) ((q9 EV2).arg (q9 HB8))).mono ?_;rw [q9 HR];rintro e w3 ⟨rfl,hb3⟩;have hz3:w.heap.size<w3.heap.size:=(by have:=hb3.size;omega);have m0:w3.cell? ⟨w.heap.size,0,none⟩=some (.int .i64 0):=((v9 hb3).1 _ 0 hz2).trans k0;have m1:w3.cell? ⟨w.heap.size,1,none⟩=some (.int .i64 0):=((v9 hb3).1 _ 1 hz2).trans k1;have m2:w3.cell? ⟨w.heap.size,2,none⟩=some (.string ⟨#[]⟩):=((v9 hb3).1 _ 2 hz2).trans k2;have z3:∀j,w3.frozen? ⟨w.heap.size,j,none⟩=false:=(fun j=>((v9 hb3).2 _ j hz2).trans (z2 j));have hB3:=v7 (v8 (q9 hB2) hb3);clear hb3 k0 k1 k2 z2;simp only [vV])|(go_at_call 39;refine (vm9 (BS r.str) _ hcl).mono ?_;rintro e w4 ⟨rfl,hb4⟩;have hz4:w3.heap.size<w4.heap.size:=(by have:=hb4.size;simp at this;omega);have n0:w4.cell? ⟨w.heap.size,0,none⟩=some (.int .i64 0):=((v9 hb4).1 _ 0 (by simp;omega)).trans (by rw [World.cell?_alloc_past _ _ _ hz3];exact m0);have n1:w4.cell? ⟨w.heap.size,1,none⟩=some (.int .i64 0):=((v9 hb4).1 _ 1 (by simp;omega)).trans (by rw [World.cell?_alloc_past _ _ _ hz3];exact m1);have n2:w4.cell? ⟨w.heap.size,2,none⟩=some (.string ⟨#[]⟩):=((v9 hb4).1 _ 2 (by simp;omega)).trans (by rw [World.cell?_alloc_past _ _ _ hz3];exact m2);have z4:∀j,w4.frozen? ⟨w.heap.size,j,none⟩=false:=(fun j=>((v9 hb4).2 _ j (by simp;omega)).trans (by rw [World.frozen?_alloc_past _ _ _ hz3];exact z3 j));have a0:w4.cell? ⟨w3.heap.size,0,none⟩=some (.int .i64 r.kind):=((v9 hb4).1 _ 0 (by simp)).trans (by simp);have a1:w4.cell? ⟨w3.heap.size,1,none⟩=some (.int .i64 r.num):=((v9 hb4).1 _ 1 (by simp)).trans (by simp);have a2:w4.cell? ⟨w3.heap.size,2,none⟩=some (.string (BS r.str)):=((v9 hb4).1 _ 2 (by simp)).trans (by simp);have z5:∀j,w4.frozen? ⟨w3.heap.size,j,none⟩=false:=(fun j=>((v9 hb4).2 _ j (by simp)).trans (by simp));have hne:¬w3.heap.size=w.heap.size:=(by omega);have hB4:=v7 (v8 (qe3 (q9 hB3) _) hb4);clear hb4 m0 m1 m2 z3))
 refine bodyPost_ret (by simp [results,Tryz.results23,go_sem,n0,n1,n2]<;>rfl) rfl ⟨rfl, ?_⟩
 exact ((((q9 hB4).setCell (by simp;omega) _).setCell (by simp) _).setCell (by simp) _).setCell (by simp) _
theorem vu3 (s:ByteArray) (hs:s.size≤140737488355328) (t:Ast) (hrd:qq1 s=.ok t) (ps:List Pr) (ev:Value) (w:World) (hE:ErrOk w)
  (hev:EvIn w ev ps) (hg:EvGood ps) (hok:qz5 ps=false) :
  Calls Tryz.prog 23 #[.string s,ev] w fun e w'=>e=.returned (.tuple #[vV nV,.int .i64 7,.int .i64 0])∧Below w.heap.size w w':=by
 have RD:=v7 (vi9 s (w.alloc (.cells #[.int .i64 0,.int .i64 0,.string ⟨#[]⟩] 26)) (hE.alloc _) hs)
 rw [hrd] at RD
 have hbl:=(Below.refl w.heap.size w).alloc (Nat.le_refl _) (.cells #[.int .i64 0,.int .i64 0,.string ⟨#[]⟩] 26)
 have EVA:=v7 (hev.below hbl)
 obtain ⟨a,n,c,rfl⟩:=hev.slice
 have HV:=v7 (fun w1 (h:EvIn w1 (.slice a n c) ps)=>jb3 h hg)
 rw [hok] at HV
 clear hrd hE hg hev hok
 go_enter Tryz.func23,Tryz.ntmps23
 go_wp2_with (first|(go_at_call 36;refine (q9 RD).mono ?_;rintro e w1 ⟨hb1,v1,rfl,hn1⟩;obtain ⟨vb,rfl⟩:=hn1.ptr;have hz1:w.heap.size<w1.heap.size:=(by have:=hb1.size;simp at this;omega);have EV1:=v7 ((q9 EVA).below hb1);have g0:w1.cell? ⟨w.heap.size,0,none⟩=some (.int .i64 0):=((v9 hb1).1 _ 0 (by simp)).trans (by simp);have g1:w1.cell? ⟨w.heap.size,1,none⟩=some (.int .i64 0):=((v9 hb1).1 _ 1 (by simp)).trans (by simp);have g2:w1.cell? ⟨w.heap.size,2,none⟩=some (.string ⟨#[]⟩):=((v9 hb1).1 _ 2 (by simp)).trans (by simp);have z0:∀j,w1.frozen? ⟨w.heap.size,j,none⟩=false:=(fun j=>((v9 hb1).2 _ j (by simp)).trans (by simp));have hB1:=v7 (v8 hbl hb1);clear hb1 hn1)|(go_at_call 37;refine (q9 HV _ (q9 EV1)).mono ?_;rintro e w2 ⟨rfl,hb2⟩;have hz2:w.heap.size<w2.heap.size:=(by have:=hb2.size;omega);have k0:w2.cell? ⟨w.heap.size,0,none⟩=some (.int .i64 0):=((v9 hb2).1 _ 0 hz1).trans g0;have k1:w2.cell? ⟨w.heap.size,1,none⟩=some (.int .i64 0):=((v9 hb2).1 _ 1 hz1).trans g1;have k2:w2.cell? ⟨w.heap.size,2,none⟩=some (.string ⟨#[]⟩):=((v9 hb2).1 _ 2 hz1).trans g2;have z2:∀j,w2.frozen? ⟨w.heap.size,j,none⟩=false:=(fun j=>((v9 hb2).2 _ j hz1).trans (z0 j));have hB2:=v7 (v8 (q9 hB1) hb2);clear hb2 g0 g1 g2 z0))
 refine bodyPost_ret (by simp [results,Tryz.results23,go_sem,k0,k1,k2]<;>rfl) rfl ⟨rfl, ?_⟩
 exact (((q9 hB2).setCell (by simp) _).setCell (by simp) _).setCell (by simp) _
theorem vu4 (s:ByteArray) (hs:s.size≤140737488355328) (en pl:Int) (hrd:qq1 s=.err en pl) (ev:Value) (w:World) (hE:ErrOk w) (hev:∃a n c,ev=.slice a n c) :
  Calls Tryz.prog 23 #[.string s,ev] w fun e w'=>e=.returned (.tuple #[vV nV,.int .i64 en,.int .i64 pl])∧Below w.heap.size w w':=by
 have RD:=v7 (vi9 s (w.alloc (.cells #[.int .i64 0,.int .i64 0,.string ⟨#[]⟩] 26)) (hE.alloc _) hs)
 rw [hrd] at RD
 have hbl:=(Below.refl w.heap.size w).alloc (Nat.le_refl _) (.cells #[.int .i64 0,.int .i64 0,.string ⟨#[]⟩] 26)
 obtain ⟨a,n,c,rfl⟩:=hev
 have hen:(en != 0)=true:=by rcases qp3 hrd with h|h|h|h<;>rw [h]<;>rfl
 have hen':(en==0)=false:=by rcases qp3 hrd with h|h|h|h<;>rw [h]<;>rfl
 clear hrd hE
 go_enter Tryz.func23,Tryz.ntmps23
 go_wp2_with (first|(go_at_call 36;refine (q9 RD).mono ?_;rintro e w1 ⟨hb1,rfl⟩;have hz1:w.heap.size<w1.heap.size:=(by have:=hb1.size;simp at this;omega);have g0:w1.cell? ⟨w.heap.size,0,none⟩=some (.int .i64 0):=((v9 hb1).1 _ 0 (by simp)).trans (by simp);have g1:w1.cell? ⟨w.heap.size,1,none⟩=some (.int .i64 0):=((v9 hb1).1 _ 1 (by simp)).trans (by simp);have g2:w1.cell? ⟨w.heap.size,2,none⟩=some (.string ⟨#[]⟩):=((v9 hb1).1 _ 2 (by simp)).trans (by simp);have z0:∀j,w1.frozen? ⟨w.heap.size,j,none⟩=false:=(fun j=>((v9 hb1).2 _ j (by simp)).trans (by simp));have hB1:=v7 (v8 hbl hb1);clear hb1))
 refine bodyPost_ret (by simp [results,Tryz.results23,go_sem,g0,g1,g2]<;>rfl) rfl ⟨rfl, ?_⟩
 exact (((q9 hB1).setCell (by simp) _).setCell (by simp) _).setCell (by simp) _
structure Ans where
 val:V
 errno:Int
 place:Int
def vg8 (s:ByteArray) (ps:List Pr):Ans:=match qq1 s with
 | .err en pl=>⟨nV,en,pl⟩
 | .ok t=>if qz5 ps then ⟨ofA ps t,0,0⟩ else ⟨nV,7,0⟩
theorem eval_any (s:ByteArray) (hs:s.size≤140737488355328) (ps:List Pr) (ev:Value) (w:World) (hE:ErrOk w) (hev:EvIn w ev ps) (hg:EvGood ps) :
  Calls Tryz.prog 23 #[.string s,ev] w fun e w'=>e=.returned (.tuple #[vV (vg8 s ps).val,.int .i64 (vg8 s ps).errno,.int .i64 (vg8 s ps).place])∧Below w.heap.size w w':=by
 unfold vg8
 cases hrd:qq1 s with
 | err en pl=>exact vu4 s hs en pl hrd ev w hE hev.slice
 | ok t=>
  cases hok:qz5 ps with
  | true=>exact jc9 s hs t hrd ps ev w hE hev hg hok
  | false=>exact vu3 s hs t hrd ps ev w hE hev hg hok
end
section
def cpR (ats:Array TypeId) (ty:TypeId) (args:Array Value):Sem Value:=Builtin.copy_ ats ty args
theorem vz0 (ats:Array TypeId) (ty:TypeId) (args:Array Value):Builtin.copy_ ats ty args=cpR ats ty args:=rfl
theorem vj9 {P:Program} (w:World) (dT sT ty elem:TypeId) (g o dLen dCap:Nat) (a:Addr) (sLen sCap:Nat) (cur:Array Value) (t:TypeId) (cs:List Value) (m:Nat)
  (hu:P.underlying dT=some (.slice elem)) (hs:(P.info? elem).map (·.size)=some m)
  (hg:w.heap[g]?=some (.cells cur t (0,0))) (hn:cs.length=Nat.min sLen dLen * m)
  (hsrc:∀j v,cs[j]?=some v→w.cell? (a.add j)=some v) (hfit:o+cs.length≤cur.size) (h1:∀v∈cs,v.oneCell'=true) :
  (cpR #[dT,sT] ty #[.slice (some ⟨g,o,none⟩) dLen dCap,.slice (some a) sLen sCap]).run P w =
   .ok (goInt (Nat.min sLen dLen)) (w.setRow g (cur.toList.take o++cs++cur.toList.drop (o+cs.length)).toArray):=by
 have hl:=run_loadCells_list (P:=P) w a cs hsrc
 have hst:=run_storeCells_at P g o t cs 0 cur w hg (by simpa using hfit) h1
 unfold cpR
 cases hq:P.info? elem with
 | none=>simp [hq] at hs
 | some i=>
  have hi:i.size=m:=by simpa [hq] using hs
  rw [hn] at hl
  simp [Builtin.copy_,run_underlying hu,Builtin.lenOf,Builtin.firstCells,sizeOf,typeInfo,hq,hi,hl,hst]
theorem vd8 {P:Program} (w:World) (dT sT ty elem:TypeId) (d a:Option Addr) (dLen dCap sCap:Nat) (m:Nat) (hu:P.underlying dT=some (.slice elem)) (hs:(P.info? elem).map (·.size)=some m) :
  (cpR #[dT,sT] ty #[.slice d dLen dCap,.slice a 0 sCap]).run P w=.ok (goInt 0) w:=by
 unfold cpR
 cases hq:P.info? elem with
 | none=>simp [hq] at hs
 | some i=>
  have hmin:Nat.min 0 dLen=0:=Nat.zero_min _
  cases a with
  | none=>cases d<;>simp [Builtin.copy_,run_underlying hu,Builtin.lenOf,Builtin.firstCells,sizeOf,typeInfo,hq,hmin,storeCells]
  | some a=>
   have hl:=run_loadCells_list (P:=P) w a [] (fun j v h=>by simp at h)
   simp only [List.length_nil] at hl
   cases d<;>simp [Builtin.copy_,run_underlying hu,Builtin.lenOf,Builtin.firstCells,sizeOf,typeInfo,hq,hmin,hl,storeCells]
end
section
attribute [local go_sem ↓] vz0
def qg8:Pr:=⟨[115,112,97,114,101],⟨7,7,[]⟩⟩
def prV (p:Pr):Value:=.agg #[.string (BS p.name),.int .i64 p.val.kind,.int .i64 p.val.num,.string (BS p.val.str)]
def qj1 (p:Pr):List Value:=[.string (BS p.name),.int .i64 p.val.kind,.int .i64 p.val.num,.string (BS p.val.str)]
theorem vp1:(Tryz.prog.info? 28).map (fun i=>(i.zero,i.size,i.bytes))=some (some (.agg #[.string ⟨#[]⟩,.int .i64 0,.int .i64 0,.string ⟨#[]⟩]),4,48):=by kernel_rfl
theorem ve3 (w:World):Calls Tryz.prog 122 #[] w fun e w'=>e=.returned (prV qg8)∧Below w.heap.size w w':=by
 go_enter Tryz.func122,Tryz.ntmps122
 go_wp2_with fail
 refine bodyPost_ret (by simp [results,Tryz.results122,go_sem];rfl) rfl ⟨rfl,(Below.refl _ _).alloc (Nat.le_refl _) _⟩
def EvRow (W:World) (b:Nat) (ps:List Pr) (i:Nat):Prop:=
 ∃f:Nat→Value,W.rowIs b 28 ((ps.length+8) * 4) f ∧
  (∀k p,ps[k]?=some p→f (k * 4)=.string (BS p.name)∧f (k * 4+1)=.int .i64 p.val.kind∧f (k * 4+2)=.int .i64 p.val.num∧f (k * 4+3)=.string (BS p.val.str)) ∧
  ∀k,k<i→f ((ps.length+k) * 4)=.string (BS qg8.name)∧f ((ps.length+k) * 4+1)=.int .i64 qg8.val.kind∧f ((ps.length+k) * 4+2)=.int .i64 qg8.val.num∧f ((ps.length+k) * 4+3)=.string (BS qg8.val.str)
theorem EvRow.of_block {W W':World} {b:Nat} {ps:List Pr} {i:Nat} (h:EvRow W b ps i) (e:W'.heap[b]?=W.heap[b]?):EvRow W' b ps i:=by
 obtain ⟨f,h1,h2,h3⟩:=h
 exact ⟨f,h1.of_block e,h2,h3⟩
theorem EvRow.lt {W:World} {b:Nat} {ps:List Pr} {i:Nat} (h:EvRow W b ps i):b<W.heap.size:=by
 obtain ⟨f,h1,_⟩:=h
 exact h1.lt
theorem EvRow.below {W W':World} {b:Nat} {ps:List Pr} {i:Nat} (h:EvRow W b ps i) (hb:Below W.heap.size W W'):EvRow W' b ps i:=h.of_block (hb.block b h.lt)
theorem EvRow.cells {W:World} {b:Nat} {ps:List Pr} {i:Nat} (h:EvRow W b ps i) {k:Nat} (hk:k<(ps.length+8) * 4):∃v,W.cell? ⟨b,k,none⟩=some v:=by
 obtain ⟨f,h1,_⟩:=h
 exact ⟨_,h1.cell hk⟩
theorem EvRow.fz {W:World} {b:Nat} {ps:List Pr} {i:Nat} (h:EvRow W b ps i) (k:Nat):W.frozen? ⟨b,k,none⟩=false:=by
 obtain ⟨f,h1,_⟩:=h
 exact h1.frozen k
theorem EvRow.prop {W:World} {b:Nat} {ps:List Pr} {i:Nat} (h:EvRow W b ps i) {k:Nat} {p:Pr} (hp:ps[k]?=some p):W.cell? ⟨b,k * 4,none⟩=some (.string (BS p.name))∧W.cell? ⟨b,k * 4+1,none⟩=some (.int .i64 p.val.kind)∧W.cell? ⟨b,k * 4+2,none⟩=some (.int .i64 p.val.num)∧W.cell? ⟨b,k * 4+3,none⟩=some (.string (BS p.val.str)):=by
 obtain ⟨f,h1,h2,_⟩:=h
 have hk:=(List.getElem?_eq_some_iff.1 hp).1
 obtain ⟨a,c,d,e⟩:=h2 k p hp
 exact ⟨by rw [h1.cell (by omega),a],by rw [h1.cell (by omega),c],by rw [h1.cell (by omega),d],by rw [h1.cell (by omega),e]⟩
theorem EvRow.spare {W:World} {b:Nat} {ps:List Pr} {i:Nat} (h:EvRow W b ps i) {k:Nat} (hk:k<i) (hi:i≤8):W.cell? ⟨b,(ps.length+k) * 4,none⟩=some (.string (BS qg8.name))∧W.cell? ⟨b,(ps.length+k) * 4+1,none⟩=some (.int .i64 qg8.val.kind)∧W.cell? ⟨b,(ps.length+k) * 4+2,none⟩=some (.int .i64 qg8.val.num)∧W.cell? ⟨b,(ps.length+k) * 4+3,none⟩=some (.string (BS qg8.val.str)):=by
 obtain ⟨f,h1,_,h3⟩:=h
 obtain ⟨a,c,d,e⟩:=h3 k hk
 exact ⟨by rw [h1.cell (by omega),a],by rw [h1.cell (by omega),c],by rw [h1.cell (by omega),d],by rw [h1.cell (by omega),e]⟩
theorem EvRow.ev {W:World} {b:Nat} {ps:List Pr} {i:Nat} (h:EvRow W b ps i):EvAt W b 0 ps:=fun k p hp=>by
 simp only [Nat.zero_add]
 exact h.prop hp
theorem EvRow.step {W:World} {b:Nat} {ps:List Pr} {i:Nat} (h:EvRow W b ps i) :
  EvRow ((((W.setCell ⟨b,(ps.length+i) * 4,none⟩ (.string (BS qg8.name))).setCell ⟨b,(ps.length+i) * 4+1,none⟩ (.int .i64 qg8.val.kind)).setCell ⟨b,(ps.length+i) * 4+2,none⟩ (.int .i64 qg8.val.num)).setCell ⟨b,(ps.length+i) * 4+3,none⟩ (.string (BS qg8.val.str))) b ps (i+1):=by
 obtain ⟨f,h1,h2,h3⟩:=h
 refine ⟨_,(((h1.set _ _).set _ _).set _ _).set _ _,fun k p hp=>?_,fun k hk=>?_⟩
 ·have hk:=(List.getElem?_eq_some_iff.1 hp).1
  obtain ⟨a,c,d,e⟩:=h2 k p hp
  refine ⟨?_, ?_, ?_, ?_⟩
  ·rw [if_neg (by omega),if_neg (by omega),if_neg (by omega),if_neg (by omega)];exact a
  ·rw [if_neg (by omega),if_neg (by omega),if_neg (by omega),if_neg (by omega)];exact c
  ·rw [if_neg (by omega),if_neg (by omega),if_neg (by omega),if_neg (by omega)];exact d
  ·rw [if_neg (by omega),if_neg (by omega),if_neg (by omega),if_neg (by omega)];exact e
 ·by_cases hki:k=i
  ·subst hki
   refine ⟨?_, ?_, ?_, ?_⟩
   ·rw [if_neg (by omega),if_neg (by omega),if_neg (by omega),if_pos rfl]
   ·rw [if_neg (by omega),if_neg (by omega),if_pos rfl]
   ·rw [if_neg (by omega),if_pos rfl]
   ·rw [if_pos rfl]
  ·obtain ⟨a,c,d,e⟩:=h3 k (by omega)
   refine ⟨?_, ?_, ?_, ?_⟩
   ·rw [if_neg (by omega),if_neg (by omega),if_neg (by omega),if_neg (by omega)];exact a
   ·rw [if_neg (by omega),if_neg (by omega),if_neg (by omega),if_neg (by omega)];exact c
   ·rw [if_neg (by omega),if_neg (by omega),if_neg (by omega),if_neg (by omega)];exact d
   ·rw [if_neg (by omega),if_neg (by omega),if_neg (by omega),if_neg (by omega)];exact e
theorem pr_flat {ps:List Pr} {j:Nat} {v:Value} (h:(ps.flatMap qj1)[j]?=some v):∃k p c,ps[k]?=some p∧c<4∧j=k * 4+c∧(qj1 p)[c]?=some v:=by
 induction ps generalizing j with
 | nil=>simp at h
 | cons q t ih=>
  rw [List.flatMap_cons] at h
  by_cases hj:j<4
  ·rw [List.getElem?_append_left (by exact hj)] at h
   exact ⟨0,q,j,rfl,hj,by omega,h⟩
  ·rw [List.getElem?_append_right (by show 4≤j;omega)] at h
   obtain ⟨k,p,c,h1,h2,h3,h4⟩:=ih h
   exact ⟨k+1,p,c,by simpa using h1,h2,by have:(qj1 q).length=4:=rfl;omega,h4⟩
theorem qr7 (ps:List Pr):(ps.flatMap qj1).length=ps.length * 4:=by
 induction ps with
 | nil=>rfl
 | cons q t ih=>rw [List.flatMap_cons,List.length_append,ih];simp [qj1];omega
theorem flatN4 {ps:List Pr} {k:Nat} {p:Pr} (hp:ps[k]?=some p) {c:Nat} (hc:c<4):(ps.flatMap qj1)[k * 4+c]?=(qj1 p)[c]?:=by
 induction ps generalizing k with
 | nil=>simp at hp
 | cons q t ih=>
  rw [List.flatMap_cons]
  have h4:(qj1 q).length=4:=rfl
  cases k with
  | zero=>
   obtain rfl:q=p:=by simpa using hp
   rw [Nat.zero_mul,Nat.zero_add,List.getElem?_append_left (by omega)]
  | succ k=>
   rw [List.getElem?_append_right (by omega),show (k+1) * 4+c - (qj1 q).length=k * 4+c by omega]
   exact ih (by simpa using hp)
theorem jc4 {W:World} {ev:Value} {ps:List Pr} {b:Nat} {xs:List Value} {ty:TypeId} (hev:EvIn W ev ps) (hown:W.ownsRow b 28 4 (.slice (some ⟨b,0,none⟩) (ps.length+8) (ps.length+8)) (ps.length+8) xs) :
  ∃W',(cpR #[29,29] ty #[.slice (some ⟨b,0,none⟩) (ps.length+8) (ps.length+8),ev]).run Tryz.prog W=.ok (goInt ps.length) W'∧Hid (EvRow W' b ps 0)∧Hid (Below b W W'):=by
 obtain ⟨i0,hi,hz0,hz1,hz2⟩:=info_parts vp1
 have hs4:(Tryz.prog.info? 28).map (·.size)=some 4:=by rw [hi];simp [hz1]
 obtain ⟨hxl,hx|⟨g,cap,cur,e,hbg,hgg,hnc,_,hcs,hct⟩⟩:=hown
 ·cases hx.1
 injection e with e1 e2 e3
 injection e1 with e1
 injection e1 with e1
 subst e1
 have hsize:cur.size=(ps.length+8) * 4:=by rw [hcs,←e3]
 rcases hev with ⟨rfl,a,cap',rfl⟩|⟨sb,off,cap',rfl,hc,he,hlt⟩
 ·refine ⟨W,vd8 W _ _ _ 28 _ _ _ _ _ 4 Tryz.underlying29 hs4,v7 ⟨fun j=>cur.getD j undef,⟨cur,hgg,hsize,fun i hi=>?_⟩,fun k p hp=>by simp at hp,fun k hk=>by omega⟩,v7 (Below.refl _ _)⟩
  rw [Array.getElem?_eq_getElem (by omega)]
  simp [Array.getD,show i<cur.size by omega]
 ·have hmin:Nat.min ps.length (ps.length+8)=ps.length:=Nat.min_eq_left (by omega)
  have hrun:=vj9 (P:=Tryz.prog) W 29 29 ty 28 b 0 (ps.length+8) (ps.length+8) ⟨sb,off,none⟩ ps.length cap' cur 28 (ps.flatMap qj1) 4 Tryz.underlying29 hs4 hgg (by rw [hmin,qr7]) (fun j v hv=>by
    obtain ⟨k,p,c,h1,h2,h3,h4⟩:=pr_flat hv
    obtain ⟨q1,q2,q3,q4⟩:=he k p h1
    have hadd:(⟨sb,off,none⟩:Addr).add j=⟨sb,off+j,none⟩:=by simp [Addr.add]
    rw [hadd,h3]
    match c,h2,h4 with
    | 0,_,h4=>rw [←Nat.add_assoc,Nat.add_zero,q1];exact h4
    | 1,_,h4=>rw [←Nat.add_assoc,q2];exact h4
    | 2,_,h4=>rw [←Nat.add_assoc,q3];exact h4
    | 3,_,h4=>rw [←Nat.add_assoc,q4];exact h4) (by rw [qr7,hsize];omega) (fun v hv=>by
    obtain ⟨p,_,hp⟩:=List.mem_flatMap.1 hv
    simp [qj1] at hp
    rcases hp with rfl|rfl|rfl|rfl<;>rfl)
  rw [hmin] at hrun
  refine ⟨_,hrun,v7 ?_,v7 ⟨rfl,rfl,rfl,by simp [World.setRow],fun k hk=>setRow_other W b k _ (by omega)⟩⟩
  obtain ⟨L,hL⟩:∃L,cur.toList.take 0++ps.flatMap qj1++cur.toList.drop (0+(ps.flatMap qj1).length)=L:=⟨_,rfl⟩
  rw [hL]
  have hLl:L.length=(ps.length+8) * 4:=by rw [←hL,List.take_zero,List.nil_append,List.length_append,List.length_drop,qr7,show cur.toList.length=(ps.length+8) * 4 from hsize];omega
  have hLg:∀j,j<ps.length * 4→L[j]?=(ps.flatMap qj1)[j]?:=fun j hj=>by
   rw [←hL,List.take_zero,List.nil_append,List.getElem?_append_left (by rw [qr7];exact hj)]
  refine ⟨fun j=>L.getD j undef,⟨L.toArray,setRow_heap W b cur _ _ _ hgg,by simpa using hLl,fun i hi=>?_⟩,fun k p hp=>?_,fun k hk=>by omega⟩
  ·show L.toArray[i]?=some (L.getD i undef)
   rw [List.getElem?_toArray,List.getD_eq_getElem?_getD,List.getElem?_eq_getElem (by omega)];rfl
  ·have hk:=(List.getElem?_eq_some_iff.1 hp).1
   have key:∀c,c<4→L.getD (k * 4+c) undef=((qj1 p)[c]?).getD undef:=fun c hc4=>by
    rw [List.getD_eq_getElem?_getD,hLg _ (by omega),flatN4 hp hc4]
   exact ⟨key 0 (by omega),key 1 (by omega),key 2 (by omega),key 3 (by omega)⟩
end
section
attribute [local go_sem ↓] vz0
def vk9 (w:World) (ps:List Pr) (e:Ending) (w':World):Prop:=e=.returned (.slice (some ⟨w.heap.size,0,none⟩) (ps.length+8) (ps.length+8))∧EvRow w' w.heap.size ps 8∧Below w.heap.size w w'
theorem event_any {w:World} {ev:Value} {ps:List Pr} (hev:EvIn w ev ps) (hl:48 * ps.length≤140737488355328):Calls Tryz.prog 76 #[ev] w (vk9 w ps):=by
 obtain ⟨i0,hi,hz0,hz1,hz2⟩:=info_parts vp1
 have HEV:=v7 hev
 obtain ⟨n,hn⟩:∃n,ps.length=n:=⟨_,rfl⟩
 have HN:=v7 hn
 have hsl:∃a c,ev=.slice a n c:=by
  rcases hev with ⟨rfl,a,cap,rfl⟩|⟨b,off,cap,rfl,_⟩
  ·exact ⟨a,cap,by rw [←hn];rfl⟩
  ·exact ⟨_,_,by rw [←hn]⟩
 obtain ⟨a,c,rfl⟩:=hsl
 rw [hn] at hl
 have CP:Hid (∀(W:World) (xs:List Value),EvIn W (.slice a n c) ps→W.ownsRow w.heap.size 28 4 (.slice (some ⟨w.heap.size,0,none⟩) (n+8) (n+8)) (n+8) xs→∃W',(cpR #[29,29] 3 #[.slice (some ⟨w.heap.size,0,none⟩) (n+8) (n+8),.slice a n c]).run Tryz.prog W=.ok (goInt n) W'∧Hid (EvRow W' w.heap.size ps 0)∧Hid (Below w.heap.size W W')):=v7 fun W xs h1 h2=>by
  have:=jc4 (ty:=3) (xs:=xs) h1 (by rw [hn];exact h2)
  rw [hn] at this
  exact this
 have BY:=v7 (fun w=>ve3 w)
 simp only [prV] at BY
 have h0:(0:Int)≤(n:Int):=by omega
 clear hev hn
 go_enter Tryz.func76,Tryz.ntmps76
 go_wp2_with (at_make;refine wpList_make_full _ rfl _ _ 29 rfl w.heap.size 28 i0 _ 4 Tryz.underlying29 hi hz0 hz1 .i64 .i64 _ _ (n+8) rfl rfl (by omega) (by omega) (by rw [hz2];omega) (by unfold maxLen;omega) (Nat.le_refl _) ?_;intro w1 hown1 hgrow1;have hB1:Below w.heap.size w w1:=(Go.RowKit.Below.grown (Below.refl _ _) hgrow1 (Nat.le_refl _) (fun k hk=>(by cases hk)));obtain ⟨w2,hcp,HE2,HB2⟩:=q9 CP w1 _ ((q9 HEV).below hB1) hown1;have HB3:=v7 (hB1.trans (q9 HB2));clear hown1 hgrow1 hB1 HB2)
 go_loopw [4] (fun i wr=>∃k:Nat,k≤8∧i=.int .i64 k∧Hid (EvRow wr w.heap.size ps k)∧Hid (Below w.heap.size w wr)) (fun i _=>8 - (intOf i).toNat)
 case atStart=>exact ⟨0,Nat.zero_le _,rfl,HE2,HB3⟩
 case round=>
  clear HE2 HB3 hcp CP
  obtain ⟨k,hk,rfl,HE,HB⟩:=hrel
  by_cases hlt:k<8
  ·have hk1:(k:Int)<8:=by omega
   have hk0:(0:Int)≤(k:Int):=by omega
   have hs0:(0:Int)≤(n:Int)+(k:Int):=by omega
   have hs1:(n:Int)+(k:Int)<(n:Int)+8:=by omega
   have hnn:=q9 HN
   have hlt2:=(q9 HE).lt
   go_wp2_with (go_at_call 122;refine (q9 BY _).mono ?_;rintro e w4 ⟨rfl,hb4⟩;have hE4:=(q9 HE).below hb4;obtain ⟨v0,q0⟩:=hE4.cells (k:=(n+k) * 4) (by omega);obtain ⟨v1,q1⟩:=hE4.cells (k:=(n+k) * 4+1) (by omega);obtain ⟨v2,q2⟩:=hE4.cells (k:=(n+k) * 4+2) (by omega);obtain ⟨v3,q3⟩:=hE4.cells (k:=(n+k) * 4+3) (by omega);have qz:=hE4.fz;have HE4:=v7 hE4;have HB4:=v7 (v8 (q9 HB) hb4);clear hE4 hb4)
   go_roundw
   case rel=>exact ⟨k+1,by omega,by go_num,v7 (by have:=(q9 HE4).step;rw [q9 HN] at this;exact this),v7 (((((q9 HB4).setCell (Nat.le_refl _) _).setCell (Nat.le_refl _) _).setCell (Nat.le_refl _) _).setCell (Nat.le_refl _) _)⟩
   case measure=>simp [intOf];omega
  ·have hke:k=8:=by omega
   subst hke
   have hnk:¬((8:Nat):Int)<8:=by omega
   go_wp2_with fail
   go_ret
   refine ⟨?_,q9 HE,q9 HB⟩
   rw [q9 HN];rfl
end
section
theorem neq_pr (p:Pr) (w:World):(binOp .neq 28 (prV p) (prV p)).run Tryz.prog w=.ok (.bool false) w:=by
 simp [prV,go_sem]
theorem still_any {w:World} {lb:Nat} {ev:Value} {ps:List Pr} (hrow:EvRow w lb ps 8) (hev:EvIn w ev ps) (hl:48 * ps.length≤140737488355328) :
  Calls Tryz.prog 78 #[.slice (some ⟨lb,0,none⟩) (ps.length+8) (ps.length+8),ev] w fun e w'=>e=.returned (.bool true)∧Below w.heap.size w w':=by
 obtain ⟨n,hn⟩:∃n,ps.length=n:=⟨_,rfl⟩
 have HN:=v7 hn
 have hsl:∃a c,ev=.slice a n c:=by
  rcases hev with ⟨rfl,a,cap,rfl⟩|⟨b,off,cap,rfl,_⟩
  ·exact ⟨a,cap,by rw [←hn];rfl⟩
  ·exact ⟨_,_,by rw [←hn]⟩
 obtain ⟨a,c,rfl⟩:=hsl
 rw [hn] at hl ⊢
 have HEV:Hid (∀(k:Nat) (p:Pr),ps[k]?=some p→∃b off,a=some ⟨b,off,none⟩∧b<w.heap.size∧EvAt w b off ps):=v7 fun k p hp=>by
  rcases hev with ⟨h0,_⟩|⟨b,off,cap,e,_,he,hlt⟩
  ·rw [h0] at hp;cases hp
  ·injection e with e
   exact ⟨b,off,e,hlt,he⟩
 have HROW:=v7 hrow
 have hlb:=hrow.lt
 have BY:=v7 (fun w=>ve3 w)
 simp only [prV] at BY
 clear hev hn hrow
 go_enter Tryz.func78,Tryz.ntmps78
 go_wp2_with (go_at_call 122;refine (q9 BY _).mono ?_;rintro e w1 ⟨rfl,hb1⟩;have HB1:=v7 hb1;have hz1:=hb1.size;clear hb1)
 obtain ⟨W0,hW0⟩:∃W:World,w1.alloc (.cells #[.string (BS qg8.name),.int .i64 qg8.val.kind,.int .i64 qg8.val.num,.string (BS qg8.val.str)] 28)=W:=⟨_,rfl⟩
 have hbW:Below w1.heap.size w1 W0:=hW0 ▸ (Below.refl _ _).alloc (Nat.le_refl _) _
 have hcp:∀k,W0.cell? ⟨w1.heap.size,k,none⟩=#[.string (BS qg8.name),.int .i64 qg8.val.kind,.int .i64 qg8.val.num,.string (BS qg8.val.str)][k]?:=fun k=>by rw [←hW0,World.cell?_alloc_at _ _ _ _ (by simp)]
 have hWz:W0.heap.size=w1.heap.size+1:=by rw [←hW0];simp
 have HBW:=v7 (v8 (q9 HB1) hbW)
 have HCP:=v7 hcp
 rw [hW0]
 clear hbW hcp hW0 HB1
 go_loopw [6] (fun i wr=>∃k:Nat,k≤n+8∧i=.int .i64 k∧Hid (Below W0.heap.size W0 wr)) (fun i _=>n+8 - (intOf i).toNat)
 case atStart=>exact ⟨0,Nat.zero_le _,rfl,v7 (Below.refl _ _)⟩
 case round=>
  obtain ⟨k,hk,rfl,HB⟩:=hrel
  have hbe:=v8 (q9 HBW) (q9 HB)
  have HBE:=v7 hbe
  have hrw:=(q9 HROW).below hbe
  have hzr:=hbe.size
  have hz2:=(q9 HB).size
  by_cases hlt:k<n+8
  ·have hk0:(0:Int)≤(k:Int):=by omega
   have hk1:(k:Int)<(n:Int)+8:=by omega
   by_cases hkn:k<n
   ·obtain ⟨p,hp⟩:∃p,ps[k]?=some p:=⟨_,List.getElem?_eq_getElem (by have:=q9 HN;omega)⟩
    obtain ⟨b,off,rfl,hb,he⟩:=q9 HEV k p hp
    obtain ⟨l0,l1,l2,l3⟩:=hrw.prop hp
    obtain ⟨e0,e1,e2,e3⟩:=he k p hp
    rw [←(v9 hbe).1 _ _ hb] at e0 e1 e2 e3
    have NE:=fun w=>neq_pr p w
    simp only [prV] at NE
    have hd1:decide ((k:Int)<(n:Int))=true:=by simpa using hkn
    have hd2:decide ((k:Int)≥(n:Int))=false:=by simp;omega
    have hd3:decide ((n:Int)≤(k:Int))=false:=by simp;omega
    have hd4:decide (n≤k)=false:=by simp;omega
    have hd5:decide (k<n)=true:=by simpa using hkn
    have hk2:(k:Int)<(n:Int):=by omega
    clear hbe hrw hp he HEV
    go_wp2_with fail
    go_quiet (fail)
    go_wp2_with fail
    go_roundw
    case rel=>exact ⟨k+1,by omega,by go_num,v7 (Go.below_drewN (q9 HB) _)⟩
    case measure=>simp [intOf];omega
   ·obtain ⟨j,rfl⟩:∃j,k=n+j:=⟨k - n,by omega⟩
    obtain ⟨l0,l1,l2,l3⟩:=hrw.spare (k:=j) (by omega) (Nat.le_refl _)
    rw [q9 HN] at l0 l1 l2 l3
    obtain ⟨hcb,_⟩:=v9 (q9 HB)
    have s0:wr.cell? ⟨w1.heap.size,0,none⟩=some (.string (BS qg8.name)):=(hcb _ 0 (by omega)).trans (q9 HCP 0)
    have s1:wr.cell? ⟨w1.heap.size,1,none⟩=some (.int .i64 qg8.val.kind):=(hcb _ 1 (by omega)).trans (q9 HCP 1)
    have s2:wr.cell? ⟨w1.heap.size,2,none⟩=some (.int .i64 qg8.val.num):=(hcb _ 2 (by omega)).trans (q9 HCP 2)
    have s3:wr.cell? ⟨w1.heap.size,3,none⟩=some (.string (BS qg8.val.str)):=(hcb _ 3 (by omega)).trans (q9 HCP 3)
    have NE:=fun w=>neq_pr qg8 w
    simp only [prV] at NE
    obtain ⟨q,hq⟩:∃q,n+j=q:=⟨_,rfl⟩
    rw [hq] at l0 l1 l2 l3 hk hlt hk0 hk1 ⊢
    have hd1:decide ((q:Int)<(n:Int))=false:=by simp;omega
    have hd2:decide ((q:Int)≥(n:Int))=true:=by simp;omega
    have hd3:decide ((n:Int)≤(q:Int))=true:=by simp;omega
    have hd4:decide (n≤q)=true:=by simp;omega
    have hd5:decide (q<n)=false:=by simp;omega
    have hk2:¬(q:Int)<(n:Int):=by omega
    have hk3:(n:Int)≤(q:Int):=by omega
    generalize qg8=sp at *
    clear hbe hrw HEV hcb hkn hq
    go_wp2_with fail
    go_quiet (fail)
    go_wp2_with fail
    go_roundw
    case rel=>exact ⟨q+1,by omega,by go_num,v7 (Go.below_drewN (q9 HB) _)⟩
    case measure=>simp [intOf];omega
  ·have hnk:¬(k:Int)<(n:Int)+8:=by omega
   clear hbe hrw
   go_wp2_with fail
   go_ret
   exact ⟨rfl,q9 HBE⟩
end
section
open Go.ChangeShapes Go.WideShapes Go.ChangeAt Go.RowKit Go.Deep
theorem vm8:Tryz.prog.cellsOf 28=4:=by kernel_rfl
theorem cellsVal:Tryz.prog.cellsOf 26=3:=by kernel_rfl
theorem va5:Tryz.prog.cellsOf 9=1:=by kernel_rfl
theorem vy8:Tryz.prog.cellsOf 3=1:=by kernel_rfl
theorem cellsI64:Tryz.prog.cellsOf 2=1:=by kernel_rfl
theorem vm7:Tryz.prog.bytesOf 28=48:=by kernel_rfl
section
variable {H:Type} {enc:TypeId×Value→H}
theorem jb4 {n:Int} (h:(Lit.int .i64 n).wf=true):Rng n:=by
 simp only [Lit.wf,Bool.and_eq_true,decide_eq_true_eq] at h
 exact ⟨h.1,h.2⟩
theorem open_prop {W:World} {base:Nat} {sp:Nat→Bool} {n:Nat} {cs:List Value} {x:DataW H×List MemPlace} (h:DataW.trod enc Tryz.prog W base sp true n 28 cs=some x) :
  ∃(nm st:ByteArray) (k m:Int),cs=[.string nm,.int .i64 k,.int .i64 m,.string st]∧x=(.agg [.lit (.string nm.data.toList),.agg [.lit (.int .i64 k),.lit (.int .i64 m),.lit (.string st.data.toList)]],[])∧Rng m:=by
 obtain ⟨y0,y1,n1,rfl,hl,t0,t1⟩:=trod_struct2 Tryz.underlying28 h
 rw [vm8] at hl
 match cs,hl with
 | [c0,c1,c2,c3],_=>
  simp only [va5,cellsVal,List.drop,List.take] at t0 t1
  obtain ⟨nm,h0,rfl,_⟩:=DataW.trod_string Tryz.underlying9 t0
  obtain ⟨z0,z1,z2,n2,rfl,_,u0,u1,u2⟩:=trod_struct3 Tryz.underlying26 t1
  simp only [vy8,cellsI64,va5,List.drop,List.take] at u0 u1 u2
  obtain ⟨k,h1,rfl,_⟩:=DataW.trod_int Tryz.underlying3 u0
  obtain ⟨m,h2,rfl,wm⟩:=DataW.trod_int Tryz.underlying2 u1
  obtain ⟨st,h3,rfl,_⟩:=DataW.trod_string Tryz.underlying9 u2
  simp only [List.cons.injEq,and_true] at h0 h1 h2 h3
  subst h0 h1 h2 h3
  exact ⟨nm,st,k,m,rfl,rfl,jb4 wm⟩
theorem qv4 {P:Program} {e:TypeId} {d:DataW H}:∀{l:List (DataW H)},d∈l→∀n∈d.weights P e,n∈DataW.weightsAll P e l:=by
 intro l
 induction l with
 | nil=>intro h;cases h
 | cons a r ih=>
  intro h n hn
  rw [DataW.weightsAll]
  rcases List.mem_cons.1 h with rfl|h
  ·exact List.mem_append_left _ hn
  ·exact List.mem_append_right _ (ih h n hn)
theorem vs8 (nm st:List UInt8) (k m:Int):(DataW.agg [.lit (.string nm),.agg [.lit (.int .i64 k),.lit (.int .i64 m),.lit (.string st)]]:DataW H).weights Tryz.prog 28=[nm.length,st.length]:=by
 rw [DataW.weights,Tryz.underlying28]
 simp only [List.map,DataW.weightsEach,DataW.weights,Tryz.underlying26]
 rfl
theorem vi1 {W:World} {fuel:Nat} {cs:List Value} {d:DataW H} {pl:List MemPlace} (ht:DataW.trod enc Tryz.prog W 0 (fun _=>true) true fuel 29 cs=some (d,pl))
  (hw:∀n∈d.weights Tryz.prog 29,n≤reachBytes):∃v ps,cs=[v]∧EvIn W v ps∧EvGood ps:=by
 rcases open_slice Tryz.underlying29 ht with ⟨hc,hx⟩|⟨a,len0,cap0,m,n,D,Pl,hc,_,hl,hm,hmm,hx,hall⟩
 ·exact ⟨_,[],hc,.inl ⟨rfl,none,0,rfl⟩,⟨(fun p hp=>by cases hp),(fun p hp=>by cases hp),Nat.zero_le _⟩⟩
 ·simp only [if_true] at hmm
  subst hmm
  simp only [Prod.mk.injEq] at hx
  obtain ⟨rfl,rfl⟩:=hx
  refine ⟨.slice (some a) len0 m, ?_⟩
  suffices hgoal:∃ps,EvIn W (.slice (some a) len0 m) ps∧EvGood ps by
   obtain ⟨ps,h1,h2⟩:=hgoal
   exact ⟨ps,hc,h1,h2⟩
  rw [vm8] at hall
  have each:∀i,i<len0→∃p:Pr,(W.cell? (a.add (i * 4))=some (.string (BS p.name))∧W.cell? (a.add (i * 4+1))=some (.int .i64 p.val.kind)∧W.cell? (a.add (i * 4+2))=some (.int .i64 p.val.num)∧W.cell? (a.add (i * 4+3))=some (.string (BS p.val.str)))∧Rng p.val.num ∧
    D i=.agg [.lit (.string p.name),.agg [.lit (.int .i64 p.val.kind),.lit (.int .i64 p.val.num),.lit (.string p.val.str)]]:=by
   intro i hi
   obtain ⟨cs',h1,h2⟩:=hall i (by omega)
   obtain ⟨nm,st,k,mm,rfl,hD,hr⟩:=open_prop h2
   simp only [Prod.mk.injEq] at hD
   obtain ⟨_,_,hcell⟩:=World.cells?_some h1
   have c0:=hcell 0 (by decide)
   have c1:=hcell 1 (by decide)
   have c2:=hcell 2 (by decide)
   have c3:=hcell 3 (by decide)
   rw [add_add] at c0 c1 c2 c3
   exact ⟨⟨nm.data.toList,⟨k,mm,st.data.toList⟩⟩,⟨c0,c1,c2,c3⟩,hr,hD.1⟩
  have inh:Inhabited Pr:=⟨⟨[],nV⟩⟩
  obtain ⟨f,hf⟩:=choose_lt each
  have hget:∀(k:Nat) (p:Pr),((List.range len0).map f)[k]?=some p→k<len0∧p=f k:=by
   intro k p hk
   rw [List.getElem?_map] at hk
   cases hr:(List.range len0)[k]? with
   | none=>rw [hr] at hk;cases hk
   | some j=>
    rw [hr] at hk
    obtain ⟨h1,h2⟩:=List.getElem?_eq_some_iff.1 hr
    rw [List.length_range] at h1
    rw [List.getElem_range] at h2
    subst h2
    exact ⟨h1,by simpa using hk.symm⟩
  have hlen:((List.range len0).map f).length=len0:=by rw [List.length_map,List.length_range]
  have hmem:∀p∈(List.range len0).map f,∃k,k<len0∧p=f k:=by
   intro p hp
   obtain ⟨k,hk⟩:=List.getElem?_of_mem hp
   exact ⟨k,hget k p hk⟩
  have hwt:=hw
  rw [DataW.weights,Tryz.underlying29] at hwt
  simp only [List.mem_cons,List.mem_append] at hwt
  refine ⟨(List.range len0).map f, ?_,⟨?_, ?_, ?_⟩⟩
  ·cases len0 with
   | zero=>exact .inl ⟨rfl,some a,_,rfl⟩
   | succ l=>
    right
    obtain ⟨b,off,spot⟩:=a
    have hs:spot=none:=by
     have:=World.cell?_spot (hf 0 (by omega)).1.1
     simpa [Addr.add] using this
    subst hs
    have hadd:∀j,(⟨b,off,none⟩:Addr).add j=⟨b,off+j,none⟩:=by intro j;simp [Addr.add]
    refine ⟨b,off,_,by rw [hlen],by rw [hlen];exact hl, ?_, ?_⟩
    ·intro k p hk
     obtain ⟨hk1,rfl⟩:=hget k p hk
     obtain ⟨⟨c0,c1,c2,c3⟩,_,_⟩:=hf k hk1
     rw [hadd] at c0 c1 c2 c3
     exact ⟨c0,c1,c2,c3⟩
    ·have:=(hf 0 (by omega)).1.1
     rw [hadd] at this
     exact block_lt_of_cell this
  ·intro p hp
   obtain ⟨k,hk,rfl⟩:=hmem p hp
   have hD:=(hf k hk).2.2
   have hin:D k∈(List.range len0).map D:=List.mem_map.2 ⟨k,List.mem_range.2 hk,rfl⟩
   have h2:=fun n hn=>hwt n (.inr (.inl (qv4 hin n hn)))
   rw [hD,vs8] at h2
   have e1:=h2 _ (by simp:(f k).name.length∈[(f k).name.length,(f k).val.str.length])
   have e2:=h2 _ (by simp:(f k).val.str.length∈[(f k).name.length,(f k).val.str.length])
   unfold reachBytes at e1 e2
   exact ⟨by omega,by omega⟩
  ·intro p hp
   obtain ⟨k,hk,rfl⟩:=hmem p hp
   exact (hf k hk).2.1
  ·have:=hwt _ (.inl rfl)
   rw [vm7,List.length_map,List.length_range] at this
   rw [hlen]
   unfold reachBytes at this
   omega
end
end
section
open Go.ChangeShapes Go.WideShapes Go.ChangeAt Go.RowKit Go.Deep
structure Ox where
 kind:Int
 n:Int
 id:Int
 text:List UInt8
 la:Option Addr
 lc:Nat
 ts:List (List UInt8)
 ev:Value
 ps:List Pr
def TxIn (W:World) (a:Option Addr) (ts:List (List UInt8)):Prop:=
 ∀(k:Nat) (s:List UInt8),ts[k]?=some s→s.length≤140737488355328∧∃sb so,a=some ⟨sb,so,none⟩∧sb<W.heap.size∧W.cell? ⟨sb,so+k,none⟩=some (.string (BS s))
structure OxOk (W:World) (x:Ox):Prop where
 text:x.text.length≤140737488355328
 kind:Rng x.kind
 n:Rng x.n
 id:Rng x.id
 tx:TxIn W x.la x.ts
 tl:16 * x.ts.length≤140737488355328
 tc:x.ts.length≤x.lc
 ev:EvIn W x.ev x.ps
 good:EvGood x.ps
 el:48 * x.ps.length≤140737488355328
theorem TxIn.below {W W':World} {a:Option Addr} {ts:List (List UInt8)} (h:TxIn W a ts) (hb:Below W.heap.size W W'):TxIn W' a ts:=fun k s hs=>by
 obtain ⟨h1,sb,so,h2,h3,h4⟩:=h k s hs
 exact ⟨h1,sb,so,h2,Nat.lt_of_lt_of_le h3 hb.size,((v9 hb).1 _ _ h3).trans h4⟩
theorem OxOk.below {W W':World} {x:Ox} (h:OxOk W x) (hb:Below W.heap.size W W'):OxOk W' x:=⟨h.text,h.kind,h.n,h.id,h.tx.below hb,h.tl,h.tc,h.ev.below hb,h.good,h.el⟩
def vc2 (x:Ox):List Value:=[.int .i64 x.kind,.int .i64 x.n,.int .i64 x.id,.string (BS x.text),.slice x.la x.ts.length x.lc,x.ev]
def oxV (x:Ox):Value:=.agg #[.int .i64 x.kind,.int .i64 x.n,.int .i64 x.id,.string (BS x.text),.slice x.la x.ts.length x.lc,x.ev]
def OpsAt (W:World) (v:Value) (l:List Ox):Prop:=
 ∃a cap,v=.slice a l.length cap∧l.length≤cap∧l.length≤140737488355328∧∀(i:Nat) (x:Ox),l[i]?=some x→OxOk W x∧∃b off,a=some ⟨b,off,none⟩∧b<W.heap.size∧∀k,k<6→W.cell? ⟨b,off+i * 6+k,none⟩=(vc2 x)[k]?
theorem cellsOx:Tryz.prog.cellsOf 64=6:=by kernel_rfl
theorem cellsEvL:Tryz.prog.cellsOf 29=1:=by kernel_rfl
theorem cellsTx:Tryz.prog.cellsOf 62=1:=by kernel_rfl
theorem bytesOx:Tryz.prog.bytesOf 64=88:=by kernel_rfl
theorem bytesStr:Tryz.prog.bytesOf 9=16:=by kernel_rfl
section
variable {H:Type} {enc:TypeId×Value→H}
theorem vs3 {P:Program} {w:World} {base:Nat} {spare:Nat→Bool} {held:Bool} {t:TypeId} {f0 f1 f2 f3 f4 f5:Field} {fuel:Nat} {cs:List Value} {x:DataW H×List MemPlace} (ht:P.underlying t=some (.struct #[f0,f1,f2,f3,f4,f5])) (h:DataW.trod enc P w base spare held fuel t cs=some x) :
  ∃y0 y1 y2 y3 y4 y5 n,x.1=.agg [y0.1,y1.1,y2.1,y3.1,y4.1,y5.1]∧cs.length=P.cellsOf t∧DataW.trod enc P w base spare held n f0.type ((cs.drop f0.offset).take (P.cellsOf f0.type))=some y0 ∧
   DataW.trod enc P w base spare held n f1.type ((cs.drop f1.offset).take (P.cellsOf f1.type))=some y1∧DataW.trod enc P w base spare held n f2.type ((cs.drop f2.offset).take (P.cellsOf f2.type))=some y2 ∧
   DataW.trod enc P w base spare held n f3.type ((cs.drop f3.offset).take (P.cellsOf f3.type))=some y3∧DataW.trod enc P w base spare held n f4.type ((cs.drop f4.offset).take (P.cellsOf f4.type))=some y4 ∧
   DataW.trod enc P w base spare held n f5.type ((cs.drop f5.offset).take (P.cellsOf f5.type))=some y5:=by
 obtain ⟨xs,n,_,rfl,hl,hlen,hf⟩:=DataW.trod_struct ht h
 match xs,hlen with
 | [y0,y1,y2,y3,y4,y5],_=>exact ⟨y0,y1,y2,y3,y4,y5,n,by simp,hl,by simpa using hf 0 f0 rfl,by simpa using hf 1 f1 rfl,by simpa using hf 2 f2 rfl,by simpa using hf 3 f3 rfl,by simpa using hf 4 f4 rfl,by simpa using hf 5 f5 rfl⟩
theorem vi2 {W:World} {fuel:Nat} {cs:List Value} {d:DataW H} {pl:List MemPlace} (ht:DataW.trod enc Tryz.prog W 0 (fun _=>true) true fuel 62 cs=some (d,pl))
  (hw:∀n∈d.weights Tryz.prog 62,n≤reachBytes):∃a ts c,cs=[.slice a ts.length c]∧TxIn W a ts∧16 * ts.length≤140737488355328∧ts.length≤c:=by
 rcases open_slice Tryz.underlying62 ht with ⟨hc,hx⟩|⟨a,len0,cap0,m,n,D,Pl,hc,_,hl,hm,hmm,hx,hall⟩
 ·exact ⟨none,[],0,hc,(fun k s h=>by simp at h),Nat.zero_le _,Nat.zero_le _⟩
 ·simp only [if_true] at hmm
  subst hmm
  simp only [Prod.mk.injEq] at hx
  obtain ⟨rfl,rfl⟩:=hx
  rw [va5] at hall
  have hwt:=hw
  rw [DataW.weights,Tryz.underlying62] at hwt
  simp only [List.mem_cons,List.mem_append] at hwt
  have each:∀i,i<len0→∃s:List UInt8,s.length≤140737488355328∧W.cell? (a.add i)=some (.string (BS s)):=by
   intro i hi
   obtain ⟨cs',h1,h2⟩:=hall i (by omega)
   obtain ⟨st,h3,h4,_⟩:=DataW.trod_string Tryz.underlying9 h2
   have hin:D i∈(List.range len0).map D:=List.mem_map.2 ⟨i,List.mem_range.2 hi,rfl⟩
   have hD:D i=.lit (.string st.data.toList):=by simpa using congrArg Prod.fst h4
   have hwl:st.data.toList.length≤reachBytes:=hwt _ (.inr (.inl (qv4 hin _ (by rw [hD];simp [DataW.weights]))))
   obtain ⟨_,_,hcell⟩:=World.cells?_some h1
   subst h3
   have c0:=hcell 0 (by decide)
   rw [add_add] at c0
   unfold reachBytes at hwl
   exact ⟨st.data.toList,by omega,by rw [BS_of];simpa using c0⟩
  obtain ⟨f,hf⟩:=choose_lt each
  have hlen:((List.range len0).map f).length=len0:=by rw [List.length_map,List.length_range]
  refine ⟨some a,(List.range len0).map f,_,by rw [hlen];exact hc,fun k s hk=>?_, ?_,by rw [hlen];exact hl⟩
  ·rw [List.getElem?_map] at hk
   cases hr:(List.range len0)[k]? with
   | none=>rw [hr] at hk;cases hk
   | some j=>
    rw [hr] at hk
    obtain ⟨h1,h2⟩:=List.getElem?_eq_some_iff.1 hr
    rw [List.length_range] at h1
    rw [List.getElem_range] at h2
    subst h2
    obtain rfl:f k=s:=by simpa using hk
    obtain ⟨q1,q2⟩:=hf k h1
    obtain ⟨b,off,spot⟩:=a
    have hs:spot=none:=by
     have:=World.cell?_spot (hf 0 (by omega)).2
     simpa [Addr.add] using this
    subst hs
    have hadd:(⟨b,off,none⟩:Addr).add k=⟨b,off+k,none⟩:=by simp [Addr.add]
    rw [hadd] at q2
    exact ⟨q1,b,off,rfl,block_lt_of_cell q2,q2⟩
  ·have:=hwt _ (.inl rfl)
   rw [bytesStr,List.length_map,List.length_range] at this
   rw [hlen]
   unfold reachBytes at this
   omega
theorem event_len {W:World} {fuel:Nat} {a:Option Addr} {n c:Nat} {d:DataW H} {pl:List MemPlace} (ht:DataW.trod enc Tryz.prog W 0 (fun _=>true) true fuel 29 [.slice a n c]=some (d,pl))
  (hw:∀n∈d.weights Tryz.prog 29,n≤reachBytes):48 * n≤140737488355328:=by
 rcases open_slice Tryz.underlying29 ht with ⟨hc,hx⟩|⟨a',len0,cap0,m,n',D,Pl,hc,_,hl,hm,hmm,hx,hall⟩
 ·simp at hc
  omega
 ·simp at hc
  obtain ⟨rfl,rfl,rfl⟩:=hc
  simp only [if_true] at hmm
  subst hmm
  simp only [Prod.mk.injEq] at hx
  obtain ⟨rfl,rfl⟩:=hx
  have hwt:=hw
  rw [DataW.weights,Tryz.underlying29] at hwt
  simp only [List.mem_cons,List.mem_append] at hwt
  have:=hwt _ (.inl rfl)
  rw [vm7,List.length_map,List.length_range] at this
  unfold reachBytes at this
  omega
theorem jh7 (tx:List UInt8) (k m i:Int) (dl dv:DataW H):(DataW.agg [.lit (.int .i64 k),.lit (.int .i64 m),.lit (.int .i64 i),.lit (.string tx),dl,dv]:DataW H).weights Tryz.prog 64=tx.length::(dl.weights Tryz.prog 62++dv.weights Tryz.prog 29):=by
 rw [DataW.weights,Tryz.underlying64]
 simp only [List.map,DataW.weightsEach,DataW.weights]
 simp
theorem EvIn.len {W:World} {a:Option Addr} {n c:Nat} {ps:List Pr} (h:EvIn W (.slice a n c) ps):ps.length=n:=by
 rcases h with ⟨rfl,a',cap,e⟩|⟨b,off,cap,e,_⟩
 ·injection e with _ e _
  exact e.symm
 ·injection e with _ e _
  exact e.symm
theorem open_op {W:World} {n:Nat} {cs:List Value} {d:DataW H} {pl:List MemPlace} (h:DataW.trod enc Tryz.prog W 0 (fun _=>true) true n 64 cs=some (d,pl)) (hw:∀n∈d.weights Tryz.prog 64,n≤reachBytes) :
  ∃x:Ox,cs=vc2 x∧OxOk W x:=by
 obtain ⟨y0,y1,y2,y3,y4,y5,n1,hx,hl,t0,t1,t2,t3,t4,t5⟩:=vs3 Tryz.underlying64 h
 rw [cellsOx] at hl
 match cs,hl with
 | [c0,c1,c2,c3,c4,c5],_=>
  simp only [vy8,va5,cellsEvL,cellsTx,List.drop,List.take] at t0 t1 t2 t3 t4 t5
  obtain ⟨k,h0,rfl,wk⟩:=DataW.trod_int Tryz.underlying3 t0
  obtain ⟨m,h1,rfl,wm⟩:=DataW.trod_int Tryz.underlying3 t1
  obtain ⟨i,h2,rfl,wi⟩:=DataW.trod_int Tryz.underlying3 t2
  obtain ⟨tx,h3,rfl,_⟩:=DataW.trod_string Tryz.underlying9 t3
  obtain ⟨d4,p4⟩:=y4
  obtain ⟨d5,p5⟩:=y5
  simp only at hx
  subst hx
  rw [jh7] at hw
  have w1:=hw _ (List.mem_cons_self ..)
  obtain ⟨a,ts,c,hv4,htx,htl,htc⟩:=vi2 t4 fun m hm=>hw m (List.mem_cons_of_mem _ (List.mem_append_left _ hm))
  obtain ⟨v,ps,hv,he,hg⟩:=vi1 t5 fun m hm=>hw m (List.mem_cons_of_mem _ (List.mem_append_right _ hm))
  simp only [List.cons.injEq,and_true] at h0 h1 h2 h3 hv4 hv
  subst h0 h1 h2 h3 hv4 hv
  unfold reachBytes at w1
  obtain ⟨ea,en,ec,rfl⟩:=he.slice
  have hel:=event_len t5 fun m hm=>hw m (List.mem_cons_of_mem _ (List.mem_append_right _ hm))
  exact ⟨⟨k,m,i,tx.data.toList,a,c,ts,.slice ea en ec,ps⟩,rfl,⟨by show tx.data.toList.length≤_;omega,jb4 wk,jb4 wm,jb4 wi,htx,htl,htc,he,hg,by rw [he.len];exact hel⟩⟩
theorem open_ops {W:World} {base:Nat} {v:Value} {d:DataW H} {pl:List MemPlace} (hval:Value.okWide Tryz.prog W .any base 22 v) (h:DataW.Trod enc Tryz.prog W 0 (fun _=>true) true 22 v d pl)
  (hw:∀n∈d.weights Tryz.prog 22,n≤reachBytes):∃l,OpsAt W v l:=by
 obtain ⟨fuel,ht⟩:=h
 obtain ⟨a0,len0,cap0,rfl⟩:=okWide_slice Tryz.underlying22 hval
 rcases open_slice Tryz.underlying22 ht with ⟨hc,hx⟩|⟨a,len,cap,m,n,D,Pl,hc,_,hl,hm,hmm,hx,hall⟩
 ·simp [Value.cells] at hc
  obtain ⟨rfl,rfl,rfl⟩:=hc
  exact ⟨[],none,0,rfl,Nat.zero_le _,Nat.zero_le _,fun i x hi=>by simp at hi⟩
 ·simp [Value.cells] at hc
  obtain ⟨rfl,rfl,rfl⟩:=hc
  simp only [if_true] at hmm
  subst hmm
  simp only [Prod.mk.injEq] at hx
  obtain ⟨rfl,rfl⟩:=hx
  rw [cellsOx] at hall
  have hwt:=hw
  rw [DataW.weights,Tryz.underlying22] at hwt
  simp only [List.mem_cons,List.mem_append] at hwt
  have each:∀i,i<len0→∃x:Ox,OxOk W x∧∀k,k<6→W.cell? (a.add (i * 6+k))=(vc2 x)[k]?:=by
   intro i hi
   obtain ⟨cs',h1,h2⟩:=hall i (by omega)
   have hin:D i∈(List.range len0).map D:=List.mem_map.2 ⟨i,List.mem_range.2 hi,rfl⟩
   obtain ⟨x,rfl,ok⟩:=open_op h2 fun n hn=>hwt n (.inr (.inl (qv4 hin n hn)))
   obtain ⟨_,_,hcell⟩:=World.cells?_some h1
   refine ⟨x,ok,fun k hk=>?_⟩
   have c:=hcell k hk
   rw [add_add] at c
   rw [c]
  have inh:Inhabited Ox:=⟨⟨0,0,0,[],none,0,[],.slice none 0 0,[]⟩⟩
  obtain ⟨f,hf⟩:=choose_lt each
  have hlen:((List.range len0).map f).length=len0:=by rw [List.length_map,List.length_range]
  have hget:∀(k:Nat) (p:Ox),((List.range len0).map f)[k]?=some p→k<len0∧p=f k:=by
   intro k p hk
   rw [List.getElem?_map] at hk
   cases hr:(List.range len0)[k]? with
   | none=>rw [hr] at hk;cases hk
   | some j=>
    rw [hr] at hk
    obtain ⟨h1,h2⟩:=List.getElem?_eq_some_iff.1 hr
    rw [List.length_range] at h1
    rw [List.getElem_range] at h2
    subst h2
    exact ⟨h1,by simpa using hk.symm⟩
  refine ⟨(List.range len0).map f,some a,_,by rw [hlen],by rw [hlen];exact hl, ?_,fun i x hi=>?_⟩
  ·have:=hwt _ (.inl rfl)
   rw [bytesOx,List.length_map,List.length_range] at this
   rw [hlen]
   unfold reachBytes at this
   omega
  ·obtain ⟨h1,rfl⟩:=hget i x hi
   obtain ⟨ok,hc⟩:=hf i h1
   obtain ⟨b,off,spot⟩:=a
   have hs:spot=none:=by
    have:=(hf 0 (by omega)).2 0 (by omega)
    have:=World.cell?_spot this
    simpa [Addr.add] using this
   subst hs
   have hadd:∀j,(⟨b,off,none⟩:Addr).add j=⟨b,off+j,none⟩:=by intro j;simp [Addr.add]
   have hc':∀k,k<6→W.cell? ⟨b,off+i * 6+k,none⟩=(vc2 (f i))[k]?:=fun k hk=>by
    have:=hc k hk
    rw [hadd,←Nat.add_assoc] at this
    exact this
   exact ⟨ok,b,off,rfl,block_lt_of_cell (hc' 0 (by omega)),hc'⟩
end
end
section
def RowB (w W:World) (g n:Nat) (f:Nat→Bool):Prop:=BoolsAt W g n f∧Below w.heap.size w W∧g<W.heap.size
theorem RowB.drewN {w W:World} {g n:Nat} {f:Nat→Bool} (h:RowB w W g n f) (k:Nat):RowB w (W.drewN k) g n f:=⟨h.1,Go.below_drewN h.2.1 _,h.2.2⟩
structure NowAt (w W:World) (g nb:Nat) (pc:Pc) (T:List UInt8) (f:Nat→Bool) (n i:Nat):Prop where
 row:W.rowIs nb 4 (n+1) (fun j=>.bool (if j<i then qj6 pc T f j else false))
 old:BoolsAt W g n f
 bel:Below w.heap.size w W
 lt:nb<W.heap.size
 glt:g<nb
section
variable {w W:World} {g nb n i:Nat} {pc:Pc} {T:List UInt8} {f:Nat→Bool}
theorem NowAt.drewN (h:NowAt w W g nb pc T f n i) (k:Nat):NowAt w (W.drewN k) g nb pc T f n i:=⟨h.row,h.old,Go.below_drewN h.bel _,h.lt,h.glt⟩
theorem NowAt.skip (h:NowAt w W g nb pc T f n i) (hv:qj6 pc T f i=false):NowAt w W g nb pc T f n (i+1):=by
 refine ⟨h.row.congr fun j _=>?_,h.old,h.bel,h.lt,h.glt⟩
 by_cases hj:j=i
 ·subst hj;rw [if_neg (Nat.lt_irrefl _),if_pos (Nat.lt_succ_self _),hv]
 ·by_cases h1:j<i
  ·rw [if_pos h1,if_pos (by omega)]
  ·rw [if_neg h1,if_neg (by omega)]
theorem NowAt.set (h:NowAt w W g nb pc T f n i) (hnb:w.heap.size≤nb) (v:Bool) (hv:qj6 pc T f i=v):NowAt w (W.setCell ⟨nb,i,none⟩ (.bool v)) g nb pc T f n (i+1):=by
 refine ⟨(h.row.set i (.bool v)).congr fun j _=>?_,fun j hj=>?_,h.bel.setCell hnb _,by simpa using h.lt,h.glt⟩
 ·by_cases hj:j=i
  ·subst hj;rw [if_pos rfl,if_pos (Nat.lt_succ_self _),hv]
  ·rw [if_neg hj]
   by_cases h1:j<i
   ·rw [if_pos h1,if_pos (by omega)]
   ·rw [if_neg h1,if_neg (by omega)]
 ·exact (World.cell?_of_block (w:=W) (a:=⟨g,j,none⟩) (Below.heap_setCell W ⟨nb,i,none⟩ _ g (by have:=h.glt;show g≠nb;omega))).trans (h.old j hj)
theorem NowAt.done (h:NowAt w W g nb pc T f n i) (hi:i=n+1):RowB w W nb n (qj6 pc T f):=by
 refine ⟨fun j hj=>?_,h.bel,h.lt⟩
 rw [h.row.cell (i:=j) (by omega),if_pos (by omega)]
theorem RowB.start (h:RowB w W g n f) (pc:Pc) (T:List UInt8):NowAt w (W.alloc (.cells (madeCells #[.bool false] (n+1)) 4)) g W.heap.size pc T f n 0:=by
 refine ⟨(World.rowIs_made W (.bool false) (n+1) 4).congr fun j _=>by rw [if_neg (Nat.not_lt_zero _)],fun j hj=>?_,h.2.1.alloc h.2.1.size _,by simp,h.2.2⟩
 rw [World.cell?_alloc_past _ _ _ h.2.2];exact h.1 j hj
theorem row_first (w:World) (n:Nat):RowB w (w.alloc (.cells ((madeCells #[.bool false] (n+1)).setIfInBounds 0 (.bool true)) 4)) w.heap.size n (fun j=>j==0):=by
 refine ⟨fun j hj=>?_,(Below.refl _ _).alloc (Nat.le_refl _) _,by simp⟩
 have hz:((madeCells #[.bool false] (n+1)).setIfInBounds 0 (Value.bool true)).size=n+1:=by rw [Array.size_setIfInBounds];exact size_madeCells _ _
 have hr:=World.rowIs_alloc w ((madeCells #[.bool false] (n+1)).setIfInBounds 0 (.bool true)) 4 (fun j=>.bool (j==0)) (fun i hi=>by
  rw [hz] at hi
  rw [Array.getElem?_setIfInBounds]
  by_cases h0:i=0
  ·subst h0
   rw [if_pos rfl,if_pos (by rw [size_madeCells _ _];exact hi)];rfl
  ·rw [if_neg (fun h=>h0 h.symm)]
   simp [madeCells,hi,Nat.mod_one,h0])
 rw [hz] at hr
 exact hr.cell (i:=j) (by omega)
end
theorem vh7 {s:ByteArray} {f:Nat→Bool} {c:UInt8} {i:Nat} (h:i<s.size):qj6 ⟨0,c⟩ s.data.toList f (i+1)=(f i&&(s[i]==c)):=by rw [←getD_at s i h];rfl
theorem rfits_any (s p e:ByteArray) (hs:s.size≤1000) (hp:p.size≤1000) {ps:List Pc} (hcut:qk3 e.data.toList p.data.toList=some ps) (w:World) :
  Calls Tryz.prog 261 #[.string s,.string p,.string e] w fun en w'=>en=.returned (.bool (qr5 ps s.data.toList fun j=>j==0))∧Below w.heap.size w w':=by
 obtain ⟨R,hR⟩:∃r,qr5 ps s.data.toList (fun j=>j==0)=r:=⟨_,rfl⟩
 rw [hR]
 have hmk:∀w,(Instr.makeSlice 259 (.int .i64 ((s.size:Int)+1)) (.int .i64 ((s.size:Int)+1))).run Tryz.prog w=.ok (.slice (some ⟨w.heap.size,0,none⟩) (s.size+1) (s.size+1)) (w.alloc (.cells (madeCells #[.bool false] (s.size+1)) 4)):=fun w=>run_make_row' (P:=Tryz.prog) 259 4 (.bool false) 1 Tryz.underlying259 vb4 rfl .i64 .i64 (s.size+1) (by omega) (by omega) w
 have HR0:Hid (R=qr5 ps s.data.toList (fun j=>j==0)):=v7 hR.symm
 have HC0:Hid (qk3 e.data.toList (p.data.toList.drop 0)=some ps):=v7 hcut
 have ROW0:=World.rowIs_made w (.bool false) (s.size+1) 4
 have hrc:=ROW0.cell (i:=0) (by omega)
 have hrf:=ROW0.frozen 0
 have ST:=v7 (row_first w s.size)
 have hlen:(0:Int)<(s.size:Int)+1:=by omega
 clear hR hcut ROW0
 go_enter Tryz.func261,Tryz.ntmps261
 go_wp2_with fail
 clear hrc hrf
 go_loopw [7,8] (fun v i wr=>∃(k:Nat) (ps':List Pc) (f:Nat→Bool) (g:Nat),k≤p.size∧i=.int .i64 k∧v=.slice (some ⟨g,0,none⟩) (s.size+1) (s.size+1)∧Hid (qk3 e.data.toList (p.data.toList.drop k)=some ps')∧Hid (R=qr5 ps' s.data.toList f)∧Hid (RowB w wr g s.size f)) (fun _ i _=>p.size - (intOf i).toNat)
 case atStart=>exact ⟨0,ps,_,_,Nat.zero_le _,rfl,rfl,HC0,HR0,ST⟩
 case round=>
  clear HR0 HC0 ST
  obtain ⟨k,ps',f,g,hk,rfl,rfl,HC,HR,HRW⟩:=hrel
  have hglt:=(q9 HRW).2.2
  by_cases hlt:k<p.size
  ·have hpe:p.data.toList[k]?=some p[k]:=by rw [List.getElem?_eq_getElem (by rw [j4];exact hlt),j9 p k hlt]
   have hk0:(0:Int)≤(k:Int):=by omega
   have hk1:(k:Int)<(p.size:Int):=by omega
   by_cases hh:e.data.toList.head?=some p[k]
   ·have hl:k+1<p.size:=by
     apply Decidable.byContradiction
     intro hn
     have h1:=q9 HC
     rw [vb1 hpe hh (by rw [j4];omega)] at h1
     cases h1
    have hpe2:p.data.toList[k+1]?=some p[k+1]:=by rw [List.getElem?_eq_getElem (by rw [j4];exact hl),j9 p (k+1) hl]
    obtain ⟨ps2,HC2,HR2⟩:∃ps2,Hid (qk3 e.data.toList (p.data.toList.drop (k+2))=some ps2)∧Hid (R=qr5 ps2 s.data.toList (qj6 ⟨0,p[k+1]⟩ s.data.toList f)):=by
     have h1:=q9 HC
     rw [vg4 hpe hh hpe2] at h1
     obtain ⟨q,h2,h3⟩:=Option.map_eq_some_iff.1 h1
     exact ⟨q,v7 h2,v7 (by rw [q9 HR,←h3];rfl)⟩
    have he:0<e.size:=by
     apply Decidable.byContradiction
     intro hn
     have:e=⟨#[]⟩:=by cases e with|mk d=>simp [ByteArray.size] at hn;simp [hn]
     subst this
     simp at hh
    have hhd:e.data.toList.head?=some e[0]:=by
     have:=List.getElem?_eq_getElem (l:=e.data.toList) (i:=0) (by rw [j4];exact he)
     rw [j9 e 0 he] at this
     rw [List.head?_eq_getElem?];exact this
    have hx':((p[k].toNat:Int)==(e[0].toNat:Int))=true:=by rw [qr0,beq_iff_eq];rw [hhd] at hh;injection hh with hh;exact hh.symm
    have hne:=qx3 he
    have he1:(0:Int)<(e.size:Int):=by omega
    have hl1:(k:Int)+1<(p.size:Int):=by omega
    have hl0:(0:Int)≤(k:Int)+1:=by omega
    clear hpe hh hpe2 hhd HC HR
    go_wp2_with fail
    go_cut [9] (fun s9 wx=>s9=.bool true∧Hid (RowB w wx g s.size f))
    case first=>
     go_quiet (fail)
     go_wp2_with fail
     go_meet
     exact ⟨rfl,v7 ((q9 HRW).drewN _)⟩
    case rest=>
     obtain ⟨rfl,HRW⟩:=hcut
     clear hx' hne he1 he
     have hglt:=(q9 HRW).2.2
     go_wp2_with fail
     obtain ⟨nb,hnb⟩:∃nb,wc.heap.size=nb:=⟨_,rfl⟩
     rw [hnb]
     go_loopw [11] (fun i wq=>∃j:Nat,j≤s.size+1∧i=.int .i64 j∧Hid (NowAt w wq g nb (⟨0,p[k+1]⟩) s.data.toList f s.size j)) (fun i _=>s.size+1 - (intOf i).toNat)
     case atStart=>exact ⟨0,Nat.zero_le _,rfl,v7 (by have:=(q9 HRW).start (⟨0,p[k+1]⟩) s.data.toList;rw [hnb] at this;exact this)⟩
     case round=>
      obtain ⟨j,hj,rfl,HN⟩:=hrel
      have hge:w.heap.size≤nb:=by have:=(q9 HRW).2.1.size;omega
      clear hnb
      have hnlt:=(q9 HN).lt
      have hgn:=(q9 HN).glt
      have ng:¬g=nb:=by omega
      have ng2:¬nb=g:=by omega
      by_cases hjl:j≤s.size
      ·have rf:=(q9 HN).row.frozen j
       have rj:wr.cell? ⟨nb,j,none⟩=some (.bool false):=by have:=(q9 HN).row.cell (i:=j) (by omega);rw [this,if_neg (Nat.lt_irrefl _)]
       have oj:=(q9 HN).old j hjl
       cases j with
       | zero=>
        rw [show ((0:Nat):Int)=0 from rfl]
        go_wp2_with fail
        go_quiet (fail)
        go_wp2_with fail
        go_roundw
        case rel=>exact ⟨0+1,by omega,by go_num,v7 (((q9 HN).drewN _).skip (by skip;simp [qj6]))⟩
        case measure=>(simp [intOf]<;>omega)
       | succ i=>
        rw [show ((i+1:Nat):Int)=(i:Int)+1 from rfl]
        have hi0:(0:Int)≤(i:Int):=by omega
        have hi1:(i:Int)+1≤(s.size:Int):=by omega
        have hi2:(i:Int)<(s.size:Int):=by omega
        have hi3:(0:Int)<(i:Int)+1:=by omega
        have hi4:i<s.size:=by omega
        have hi5:(i:Int)+1<(s.size:Int)+1:=by omega
        have hi6:(i:Int)<(s.size:Int)+1:=by omega
        have oi:=(q9 HN).old i (by omega)
        cases hx:(p[k+1]==s[i])
        ·have hx':=(qr0 _ _).trans hx
         go_wp2_with fail
         go_quiet (fail)
         go_wp2_with fail
         go_roundw
         case rel=>exact ⟨i+1+1,by omega,by go_num,v7 (((q9 HN).drewN _).skip (by rw [vh7 hi4,show (s[i]==p[k+1])=false by rw [Bool.beq_comm];exact hx];exact Bool.and_false _))⟩
         case measure=>(simp [intOf]<;>omega)
        ·have hx':=(qr0 _ _).trans hx
         obtain ⟨fi,hfi⟩:∃b,f i=b:=⟨_,rfl⟩
         rw [hfi] at oi
         go_wp2_with fail
         go_quiet (fail)
         go_wp2_with fail
         go_roundw
         case rel=>exact ⟨i+1+1,by omega,by go_num,v7 (((q9 HN).drewN _).set hge _ (by rw [vh7 hi4,hfi,show (s[i]==p[k+1])=true by rw [Bool.beq_comm];exact hx];exact Bool.and_true _))⟩
         case measure=>(simp [intOf]<;>omega)
      ·have hje:j=s.size+1:=by omega
       have hjn:¬(j:Int)≤(s.size:Int):=by omega
       go_wp2_with fail
       go_roundw
       case rel=>exact ⟨k+2,ps2,_,nb,by omega,by go_num,rfl,HC2,HR2,v7 ((q9 HN).done hje)⟩
       case measure=>simp [intOf];omega
   ·obtain ⟨ps2,HC2,HR2⟩:∃ps2,Hid (qk3 e.data.toList (p.data.toList.drop (k+1))=some ps2)∧Hid (R=qr5 ps2 s.data.toList (qj6 (qf4 p[k]) s.data.toList f)):=by
     have h1:=q9 HC
     rw [qy0 hpe hh] at h1
     obtain ⟨q,h2,h3⟩:=Option.map_eq_some_iff.1 h1
     exact ⟨q,v7 h2,v7 (by rw [q9 HR,←h3];rfl)⟩
    clear HC HR hpe
    go_wp2_with fail
    go_cut [9] (fun s9 wx=>s9=.bool false∧Hid (RowB w wx g s.size f))
    case first=>
     by_cases he:0<e.size
     ·have hhd:e.data.toList.head?=some e[0]:=by
       have:=List.getElem?_eq_getElem (l:=e.data.toList) (i:=0) (by rw [j4];exact he)
       rw [j9 e 0 he] at this
       rw [List.head?_eq_getElem?];exact this
      have hx':((p[k].toNat:Int)==(e[0].toNat:Int))=false:=by rw [qr0,beq_eq_false_iff_ne];intro h;rw [hhd,h] at hh;exact hh rfl
      have hne:=qx3 he
      have he1:(0:Int)<(e.size:Int):=by omega
      clear hh hhd
      go_quiet (fail)
      go_wp2_with fail
      go_meet
      exact ⟨rfl,v7 ((q9 HRW).drewN _)⟩
     ·have hee:e=⟨#[]⟩:=by cases e with|mk d=>simp [ByteArray.size] at he;simp [he]
      subst hee
      clear he hh
      go_quiet (fail)
      go_wp2_with fail
      go_meet
      exact ⟨rfl,v7 ((q9 HRW).drewN _)⟩
    case rest=>
     obtain ⟨rfl,HRW⟩:=hcut
     clear hh
     have hglt:=(q9 HRW).2.2
     go_wp2_with fail
     obtain ⟨nb,hnb⟩:∃nb,wc.heap.size=nb:=⟨_,rfl⟩
     rw [hnb]
     go_loopw [11] (fun i wq=>∃j:Nat,j≤s.size+1∧i=.int .i64 j∧Hid (NowAt w wq g nb (qf4 p[k]) s.data.toList f s.size j)) (fun i _=>s.size+1 - (intOf i).toNat)
     case atStart=>exact ⟨0,Nat.zero_le _,rfl,v7 (by have:=(q9 HRW).start (qf4 p[k]) s.data.toList;rw [hnb] at this;exact this)⟩
     case round=>
      obtain ⟨j,hj,rfl,HN⟩:=hrel
      have hge:w.heap.size≤nb:=by have:=(q9 HRW).2.1.size;omega
      clear hnb
      have hnlt:=(q9 HN).lt
      have hgn:=(q9 HN).glt
      have ng:¬g=nb:=by omega
      have ng2:¬nb=g:=by omega
      by_cases hjl:j≤s.size
      ·have rf:=(q9 HN).row.frozen j
       have rj:wr.cell? ⟨nb,j,none⟩=some (.bool false):=by have:=(q9 HN).row.cell (i:=j) (by omega);rw [this,if_neg (Nat.lt_irrefl _)]
       have oj:=(q9 HN).old j hjl
       cases h37:((p[k].toNat:Int)==37)
       ·cases h95:((p[k].toNat:Int)==95)
        ·skip
         cases j with
         | zero=>
          rw [show ((0:Nat):Int)=0 from rfl]
          go_wp2_with fail
          go_quiet (fail)
          go_wp2_with fail
          go_roundw
          case rel=>exact ⟨0+1,by omega,by go_num,v7 (((q9 HN).drewN _).skip (by have hpp:qf4 p[k]=⟨0,p[k]⟩:=(by simp [qf4,h37,h95]);rw [hpp];simp [qj6]))⟩
          case measure=>(simp [intOf]<;>omega)
         | succ i=>
          rw [show ((i+1:Nat):Int)=(i:Int)+1 from rfl]
          have hi0:(0:Int)≤(i:Int):=by omega
          have hi1:(i:Int)+1≤(s.size:Int):=by omega
          have hi2:(i:Int)<(s.size:Int):=by omega
          have hi3:(0:Int)<(i:Int)+1:=by omega
          have hi4:i<s.size:=by omega
          have hi5:(i:Int)+1<(s.size:Int)+1:=by omega
          have hi6:(i:Int)<(s.size:Int)+1:=by omega
          have oi:=(q9 HN).old i (by omega)
          cases hx:(p[k]==s[i])
          ·have hx':=(qr0 _ _).trans hx
           go_wp2_with fail
           go_quiet (fail)
           go_wp2_with fail
           go_roundw
           case rel=>exact ⟨i+1+1,by omega,by go_num,v7 (((q9 HN).drewN _).skip (by have hpp:qf4 p[k]=⟨0,p[k]⟩:=(by simp [qf4,h37,h95]);rw [hpp];rw [vh7 hi4,show (s[i]==p[k])=false by rw [Bool.beq_comm];exact hx];exact Bool.and_false _))⟩
           case measure=>(simp [intOf]<;>omega)
          ·have hx':=(qr0 _ _).trans hx
           obtain ⟨fi,hfi⟩:∃b,f i=b:=⟨_,rfl⟩
           rw [hfi] at oi
           go_wp2_with fail
           go_quiet (fail)
           go_wp2_with fail
           go_roundw
           case rel=>exact ⟨i+1+1,by omega,by go_num,v7 (((q9 HN).drewN _).set hge _ (by have hpp:qf4 p[k]=⟨0,p[k]⟩:=(by simp [qf4,h37,h95]);rw [hpp];rw [vh7 hi4,hfi,show (s[i]==p[k])=true by rw [Bool.beq_comm];exact hx];exact Bool.and_true _))⟩
           case measure=>(simp [intOf]<;>omega)
        ·skip
         cases j with
         | zero=>
          rw [show ((0:Nat):Int)=0 from rfl]
          go_wp2_with fail
          go_quiet (fail)
          go_wp2_with fail
          go_roundw
          case rel=>exact ⟨0+1,by omega,by go_num,v7 (((q9 HN).drewN _).skip (by have hpp:qf4 p[k]=⟨1,0⟩:=(by simp [qf4,h37,h95]);rw [hpp];simp [qj6]))⟩
          case measure=>(simp [intOf]<;>omega)
         | succ i=>
          rw [show ((i+1:Nat):Int)=(i:Int)+1 from rfl]
          have hi0:(0:Int)≤(i:Int):=by omega
          have hi1:(i:Int)+1≤(s.size:Int):=by omega
          have hi2:(i:Int)<(s.size:Int):=by omega
          have hi3:(0:Int)<(i:Int)+1:=by omega
          have hi4:i<s.size:=by omega
          have hi5:(i:Int)+1<(s.size:Int)+1:=by omega
          have hi6:(i:Int)<(s.size:Int)+1:=by omega
          have oi:=(q9 HN).old i (by omega)
          obtain ⟨fi,hfi⟩:∃b,f i=b:=⟨_,rfl⟩
          rw [hfi] at oi
          go_wp2_with fail
          go_quiet (fail)
          go_wp2_with fail
          go_roundw
          case rel=>exact ⟨i+1+1,by omega,by go_num,v7 (((q9 HN).drewN _).set hge _ (by have hpp:qf4 p[k]=⟨1,0⟩:=(by simp [qf4,h37,h95]);rw [hpp];simp [qj6,hfi]))⟩
          case measure=>(simp [intOf]<;>omega)
       ·cases hfj:f j
        ·rw [hfj] at oj
         cases j with
         | zero=>
          rw [show ((0:Nat):Int)=0 from rfl]
          go_wp2_with fail
          go_roundw
          case rel=>exact ⟨0+1,by omega,by go_num,v7 (((q9 HN)).set hge _ (by have hpp:qf4 p[k]=⟨2,0⟩:=(by simp [qf4,h37]);rw [hpp];simp [qj6,hfj]))⟩
          case measure=>(simp [intOf]<;>omega)
         | succ i=>
          rw [show ((i+1:Nat):Int)=(i:Int)+1 from rfl]
          have hi0:(0:Int)≤(i:Int):=by omega
          have hi1:(i:Int)+1≤(s.size:Int):=by omega
          have hi2:(i:Int)<(s.size:Int):=by omega
          have hi3:(0:Int)<(i:Int)+1:=by omega
          have hi4:i<s.size:=by omega
          have hi5:(i:Int)+1<(s.size:Int)+1:=by omega
          have hi6:(i:Int)<(s.size:Int)+1:=by omega
          have oi:=(q9 HN).old i (by omega)
          obtain ⟨fi,hfi⟩:∃b,qj6 (qf4 p[k]) s.data.toList f i=b:=⟨_,rfl⟩
          have ni:wr.cell? ⟨nb,i,none⟩=some (.bool fi):=by have:=(q9 HN).row.cell (i:=i) (by omega);rw [this,if_pos (Nat.lt_succ_self _),hfi]
          have HFI:=v7 hfi
          clear hfi
          go_wp2_with fail
          go_roundw
          case rel=>exact ⟨i+1+1,by omega,by go_num,v7 (((q9 HN)).set hge _ (by have q:=q9 HFI;rw [show qf4 p[k]=⟨2,0⟩ by simp [qf4,h37]] at q ⊢;simp [qj6,hfj,q]))⟩
          case measure=>(simp [intOf]<;>omega)
        ·rw [hfj] at oj
         go_wp2_with fail
         go_roundw
         case rel=>exact ⟨j+1,by omega,by go_num,v7 (((q9 HN)).set hge _ (by have hpp:qf4 p[k]=⟨2,0⟩:=(by simp [qf4,h37]);rw [hpp];cases j<;>simp [qj6,hfj]))⟩
         case measure=>(simp [intOf]<;>omega)
      ·have hje:j=s.size+1:=by omega
       have hjn:¬(j:Int)≤(s.size:Int):=by omega
       go_wp2_with fail
       go_roundw
       case rel=>exact ⟨k+1,ps2,_,nb,by omega,by go_num,rfl,HC2,HR2,v7 ((q9 HN).done hje)⟩
       case measure=>simp [intOf];omega
  ·have hke:k=p.size:=by omega
   have hl:=(q9 HRW).1 s.size (Nat.le_refl _)
   have hps:ps'=[]:=by
    have h1:=q9 HC
    rw [hke,vg3 (by rw [j4];omega)] at h1
    injection h1 with h1
    exact h1.symm
   have HRf:Hid (R=f s.size):=v7 (by rw [q9 HR,hps,qr5,j4])
   have hnk:¬(k:Int)<(p.size:Int):=by omega
   obtain ⟨r,hr⟩:∃r,f s.size=r:=⟨_,rfl⟩
   rw [hr] at hl HRf
   clear hke hps hr
   go_wp2_with fail
   go_ret
   exact ⟨by rw [q9 HRf];rfl,(q9 HRW).2.1⟩
end
section
def qs4 (x:V) (ts:List (List UInt8)) (k:Nat):V:=(ts.take k).foldl (fun f t=>orV f (eqV x (tV t))) (bV false)
theorem vt1 {x:V} {ts:List (List UInt8)} {k:Nat} {t:List UInt8} (h:ts[k]?=some t):qs4 x ts (k+1)=orV (qs4 x ts k) (eqV x (tV t)):=by
 unfold qs4
 rw [List.take_add_one,h]
 simp
theorem jb5 {x:V} {ts:List (List UInt8)}:qs4 x ts ts.length=qu1 x ts:=by unfold qs4 qu1;rw [List.take_length]
structure VarAt (w W:World) (vb:Nat) (v:V):Prop where
 c0:W.cell? ⟨vb,0,none⟩=some (.int .i64 v.kind)
 c1:W.cell? ⟨vb,1,none⟩=some (.int .i64 v.num)
 c2:W.cell? ⟨vb,2,none⟩=some (.string (BS v.str))
 fz:∀i,W.frozen? ⟨vb,i,none⟩=false
 lt:vb<W.heap.size
 bel:Below w.heap.size w W
theorem VarAt.below {w W W':World} {vb:Nat} {v:V} (h:VarAt w W vb v) (hb:Below W.heap.size W W'):VarAt w W' vb v:=
 ⟨((v9 hb).1 _ _ h.lt).trans h.c0,((v9 hb).1 _ _ h.lt).trans h.c1,((v9 hb).1 _ _ h.lt).trans h.c2,fun i=>((v9 hb).2 _ i h.lt).trans (h.fz i),Nat.lt_of_lt_of_le h.lt hb.size,v8 h.bel hb⟩
theorem VarAt.new {w W:World} (hb:Below w.heap.size w W) (v:V):VarAt w (W.alloc (.cells #[.int .i64 v.kind,.int .i64 v.num,.string (BS v.str)] 26)) W.heap.size v:=
 ⟨by simp,by simp,by simp,fun i=>by simp,by simp,hb.alloc hb.size _⟩
theorem VarAt.put {w W:World} {vb:Nat} {v:V} (h:VarAt w W vb v) (hge:w.heap.size≤vb) (u:V):VarAt w (((W.setCell ⟨vb,0,none⟩ (.int .i64 u.kind)).setCell ⟨vb,1,none⟩ (.int .i64 u.num)).setCell ⟨vb,2,none⟩ (.string (BS u.str))) vb u:=by
 refine ⟨?_, ?_, ?_,fun i=>?_,by simpa using h.lt,((h.bel.setCell hge _).setCell hge _).setCell hge _⟩
 ·simp [go_sem,h.c0]
 ·simp [go_sem,h.c1]
 ·simp [go_sem,h.c2]
 ·simp [go_sem,h.fz i]
theorem VarAt.other {w W:World} {vb qb:Nat} {v:V} (h:VarAt w W vb v) (hne:vb≠qb) (hge:w.heap.size≤qb) (a c d:Value):VarAt w (((W.setCell ⟨qb,0,none⟩ a).setCell ⟨qb,1,none⟩ c).setCell ⟨qb,2,none⟩ d) vb v:=by
 have e:(((W.setCell ⟨qb,0,none⟩ a).setCell ⟨qb,1,none⟩ c).setCell ⟨qb,2,none⟩ d).heap[vb]?=W.heap[vb]?:=by
  rw [Below.heap_setCell _ ⟨qb,2,none⟩ _ vb hne,Below.heap_setCell _ ⟨qb,1,none⟩ _ vb hne,Below.heap_setCell _ ⟨qb,0,none⟩ _ vb hne]
 exact ⟨(World.cell?_of_block (w:=W) (a:=⟨vb,0,none⟩) e).trans h.c0,(World.cell?_of_block (w:=W) (a:=⟨vb,1,none⟩) e).trans h.c1,(World.cell?_of_block (w:=W) (a:=⟨vb,2,none⟩) e).trans h.c2,fun i=>(World.frozen?_of_block (w:=W) (a:=⟨vb,i,none⟩) e).trans (h.fz i),by simpa using h.lt,((h.bel.setCell hge _).setCell hge _).setCell hge _⟩
section
variable {w:World} {a N c:Int} {iv ev:Value} {S E:ByteArray} {neg:Bool}
theorem rvalue_21 {b n cap lc:Nat} {la:Option Addr} {x:V} {ts:List (List UInt8)} (hn:0<n) (hb0:b<w.heap.size) (x0:w.cell? ⟨b,0,none⟩=some (.int .i64 x.kind)) (x1:w.cell? ⟨b,1,none⟩=some (.int .i64 x.num)) (x2:w.cell? ⟨b,2,none⟩=some (.string (BS x.str))) (hts:ts.length≤1000)
  (hl:∀k t,ts[k]?=some t→∃lb,la=some ⟨lb,0,none⟩∧lb<w.heap.size∧w.cell? ⟨lb,k,none⟩=some (.string (BS t))) :
  Calls Tryz.prog 176 #[.agg #[.string ⟨#[73,78]⟩,.int .i64 a,iv,.string S,.string E,.slice la ts.length lc,.int .i64 N,.bool neg,.int .i64 c],.slice (some ⟨b,0,none⟩) n cap,ev] w fun e w'=>e=.returned (vV (qu1 x ts))∧Below w.heap.size w w':=by
 have hn':(0:Int)<(n:Int):=by omega
 obtain ⟨lT,hlT⟩:∃k,ts.length=k:=⟨_,rfl⟩
 have HLT:=v7 hlT
 rw [hlT] at hts ⊢
 have HL:=v7 hl
 have RT:=v7 (fun w=>j8 false w)
 clear hl hlT
 obtain ⟨R,hR⟩:∃r,qu1 x ts=r:=⟨_,rfl⟩
 have HR:Hid (qs4 x ts lT=R):=v7 (by rw [←q9 HLT,jb5,hR])
 rw [hR]
 clear hR
 go_enter Tryz.func176,Tryz.ntmps176
 go_wp2_with (go_at_call 132;refine (q9 RT _).mono ?_;rintro e w1 ⟨rfl,hb1⟩;have HB1:=v7 (v8 (qb2 w _ _) hb1);obtain ⟨hc1,hf1⟩:=v9 hb1;have hz1:w.heap.size+2≤w1.heap.size:=(by have:=hb1.size;simp at this;omega);have m5:w1.cell? ⟨w.heap.size,5,none⟩=some (.slice la lT lc):=(hc1 _ 5 (by simp;try omega)).trans (by simp);have r0:w1.cell? ⟨w.heap.size+1,0,none⟩=some (.int .i64 0):=(hc1 _ 0 (by simp)).trans (by simp);have r1:w1.cell? ⟨w.heap.size+1,1,none⟩=some (.int .i64 0):=(hc1 _ 1 (by simp)).trans (by simp);have r2:w1.cell? ⟨w.heap.size+1,2,none⟩=some (.string ⟨#[]⟩):=(hc1 _ 2 (by simp)).trans (by simp);have rz:∀i,w1.frozen? ⟨w.heap.size+1,i,none⟩=false:=(fun i=>(hf1 _ i (by simp)).trans (by simp));clear hb1 hc1 hf1;simp only [vV])
 obtain ⟨vb,hvb⟩:∃v,w1.heap.size=v:=⟨_,rfl⟩
 have V0:Hid (VarAt w1 (w1.alloc (.cells #[.int .i64 (bV false).kind,.int .i64 (bV false).num,.string (BS (bV false).str)] 26)) w1.heap.size (qs4 x ts 0)):=v7 (VarAt.new (Below.refl _ _) _)
 rw [hvb] at V0
 rw [hvb]
 go_loopw [8] (fun i wr=>∃k:Nat,k≤lT∧i=.int .i64 k∧Hid (VarAt w1 wr vb (qs4 x ts k))) (fun i _=>lT - (intOf i).toNat)
 case atStart=>exact ⟨0,Nat.zero_le _,rfl,V0⟩
 case round=>
  clear V0
  obtain ⟨k,hk,rfl,HV⟩:=hrel
  have HVB:=v7 hvb
  have hzb:w.heap.size+2≤vb:=by omega
  clear hvb
  obtain ⟨hcb,hfb⟩:=v9 (q9 HV).bel
  have hvl:=(q9 HV).lt
  have e5:wr.cell? ⟨w.heap.size,5,none⟩=some (.slice la lT lc):=(hcb _ 5 (by omega)).trans m5
  by_cases hlt:k<lT
  ·obtain ⟨t,ht⟩:∃t,ts[k]?=some t:=⟨_,List.getElem?_eq_getElem (by have:=q9 HLT;omega)⟩
   obtain ⟨lb,rfl,hlb,hlc⟩:=q9 HL k t ht
   have HK:Hid (qs4 x ts (k+1)=orV (qs4 x ts k) (eqV x (tV t))):=v7 (vt1 ht)
   have el:wr.cell? ⟨lb,k,none⟩=some (.string (BS t)):=(hcb _ k (by omega)).trans (((q9 HB1).cell (p:=⟨lb,k,none⟩) hlb).trans hlc)
   have e0:wr.cell? ⟨b,0,none⟩=some (.int .i64 x.kind):=(hcb _ 0 (by omega)).trans (((q9 HB1).cell (p:=⟨b,0,none⟩) hb0).trans x0)
   have e1:wr.cell? ⟨b,1,none⟩=some (.int .i64 x.num):=(hcb _ 1 (by omega)).trans (((q9 HB1).cell (p:=⟨b,1,none⟩) hb0).trans x1)
   have e2:wr.cell? ⟨b,2,none⟩=some (.string (BS x.str)):=(hcb _ 2 (by omega)).trans (((q9 HB1).cell (p:=⟨b,2,none⟩) hb0).trans x2)
   have RE:=v7 (fun w=>qy8 x (tV t) w)
   simp only [vV,tV] at RE
   have hk0:(0:Int)≤(k:Int):=by omega
   have hk1:(k:Int)<(lT:Int):=by omega
   have q1:b<wr.heap.size:=by omega
   have q2:b<wr.heap.size+1:=by omega
   have q3:lb<wr.heap.size:=by omega
   have q4:lb<wr.heap.size+1:=by omega
   have q5:w.heap.size<wr.heap.size:=by omega
   have q6:w.heap.size<wr.heap.size+1:=by omega
   have n1:¬b=wr.heap.size:=by omega
   have n2:¬lb=wr.heap.size:=by omega
   have n3:¬w.heap.size=wr.heap.size:=by omega
   have n4:¬wr.heap.size=b:=by omega
   have n5:¬wr.heap.size=lb:=by omega
   have n6:¬wr.heap.size=w.heap.size:=by omega
   have hv1:vb<wr.heap.size+1:=by omega
   obtain ⟨av,hav⟩:∃v,qs4 x ts k=v:=⟨_,rfl⟩
   rw [hav] at HV HK
   obtain ⟨ev2,hev2⟩:∃v,eqV x (tV t)=v:=⟨_,rfl⟩
   have hev3:eqV x { kind:=3,num:=0,str:=t }=ev2:=hev2
   rw [hev2] at HK
   rw [hev3] at RE
   clear hav hev2 hev3 ht hlc hcb hfb m5 x0 x1 x2
   go_wp2_with fail
   go_cut [9] (fun s9 wx=>∃qb,s9=.pointer (some ⟨qb,0,none⟩)∧Hid (VarAt w1 wx vb av)∧Hid (VarAt w1 wx qb ev2))
   case first=>
    go_region_held3 (fun W=>W.cell? ⟨b,0,none⟩=some (.int .i64 x.kind)∧W.cell? ⟨b,1,none⟩=some (.int .i64 x.num)∧W.cell? ⟨b,2,none⟩=some (.string (BS x.str))∧W.cell? ⟨w.heap.size,5,none⟩=some (.slice (some ⟨lb,0,none⟩) lT lc)∧W.cell? ⟨lb,k,none⟩=some (.string (BS t))) (first|with_reducible assumption|go_keep) ((go_at_call 222;refine (q9 RE _).mono ?_;rintro e w2 ⟨rfl,hb2⟩;obtain ⟨hc2,hf2⟩:=v9 hb2;have hz2:wr.heap.size≤w2.heap.size:=(by have:=hb2.size;simp at this;omega);have hSS:(w2.cell? ⟨b,0,none⟩=some (.int .i64 x.kind)∧w2.cell? ⟨b,1,none⟩=some (.int .i64 x.num)∧w2.cell? ⟨b,2,none⟩=some (.string (BS x.str))∧w2.cell? ⟨w.heap.size,5,none⟩=some (.slice (some ⟨lb,0,none⟩) lT lc)∧w2.cell? ⟨lb,k,none⟩=some (.string (BS t))):=(by refine ⟨(hc2 _ _ ?_).trans ?_,(hc2 _ _ ?_).trans ?_,(hc2 _ _ ?_).trans ?_,(hc2 _ _ ?_).trans ?_,(hc2 _ _ ?_).trans ?_⟩<;>simp [*]);  have p1:¬b=w2.heap.size:=(by omega);have p2:¬lb=w2.heap.size:=(by omega);have p3:¬w.heap.size=w2.heap.size:=(by omega)))
    all_goals
     go_wp2_with fail
     go_meet
     first
      | exact ⟨_,rfl,v7 (((q9 HV).below (v8 (Below.refl _ _).drew hb2)).below ((Below.refl _ _).alloc (Nat.le_refl _) _)),v7 (VarAt.new (v8 (q9 HV).bel (v8 (Below.refl _ _).drew hb2)) _)⟩
      | exact ⟨_,rfl,v7 (((q9 HV).below (v8 ((Below.refl _ _).alloc (Nat.le_refl _) _).drew hb2)).other (by omega) (q9 HV).bel.size _ _ _),v7 (((VarAt.new (q9 HV).bel nV).below (v8 (Below.refl _ _).drew hb2)).put (q9 HV).bel.size _)⟩
   case rest=>
    obtain ⟨qb,rfl,HV2,HQ⟩:=hcut
    have RO:=v7 (fun w=>ror_any av ev2 w)
    simp only [vV] at RO
    have v0:=(q9 HV2).c0
    have v1:=(q9 HV2).c1
    have v2:=(q9 HV2).c2
    have u0:=(q9 HQ).c0
    have u1:=(q9 HQ).c1
    have u2:=(q9 HQ).c2
    have vl2:=(q9 HV2).lt
    have ql2:=(q9 HQ).lt
    clear HV
    go_wp2_with (go_at_call 221;refine (q9 RO _).mono ?_;rintro e w3 ⟨rfl,hb3⟩;have HV3:=v7 ((q9 HV2).below hb3);have y0:=(q9 HV3).c0;have y1:=(q9 HV3).c1;have y2:=(q9 HV3).c2;have yz:=(q9 HV3).fz;have yl:=(q9 HV3).lt;clear hb3)
    go_roundw
    case rel=>exact ⟨k+1,by omega,by go_num,v7 (by rw [q9 HK];exact (q9 HV3).put (by have:=q9 HVB;omega) _)⟩
    case measure=>simp [intOf];omega
  ·have hke:k=lT:=by omega
   have hnk:¬(k:Int)<(lT:Int):=by omega
   obtain ⟨av,hav⟩:∃v,qs4 x ts k=v:=⟨_,rfl⟩
   have HRA:Hid (R=av):=v7 (by rw [←q9 HR,←hav,hke])
   rw [hav] at HV
   have v0:=(q9 HV).c0
   have v1:=(q9 HV).c1
   have v2:=(q9 HV).c2
   have t0:=(hcb (w.heap.size+1) 0 (by omega)).trans r0
   have t1:=(hcb (w.heap.size+1) 1 (by omega)).trans r1
   have t2:=(hcb (w.heap.size+1) 2 (by omega)).trans r2
   have tz:∀i,wr.frozen? ⟨w.heap.size+1,i,none⟩=false:=fun i=>(hfb (w.heap.size+1) i (by omega)).trans (rz i)
   have tl:w.heap.size+1<wr.heap.size:=by omega
   have nv:¬vb=w.heap.size+1:=by omega
   have HBE:=v7 (v8 (q9 HB1) (q9 HV).bel)
   clear hcb hfb hav hke r0 r1 r2 rz m5
   go_wp2_with fail
   refine bodyPost_ret (by simp [results,Tryz.results176,go_sem,t0,t1,t2]<;>rfl) rfl ⟨?_, ?_⟩
   ·rw [q9 HRA];rfl
   ·exact ((((q9 HBE).setCell (by simp) _).setCell (by simp) _).setCell (by simp) _)
end
end
section
theorem vx2 (v:V) (hv:v.str.length≤140737488355328) (w:World) :
  Calls Tryz.prog 131 #[vV v] w fun e w'=>e=.returned (.bool (qx5 v))∧Below w.heap.size w w':=by
 have he:=vy6 v.str
 have hz:=qi8 v.str
 unfold qx5
 obtain ⟨em,hem⟩:∃em,v.str.isEmpty=em:=⟨_,rfl⟩
 rw [hem] at he ⊢
 clear hem
 conv=>arg 3;simp only [vV]
 cases h0:(v.kind==0)
 ·cases h1:(v.kind==1)
  ·cases h2:(v.kind==2)
   ·cases h3:(v.kind==3)
    ·simp only [Bool.false_eq_true,if_false]
     go_enter Tryz.func131,Tryz.ntmps131
     go_wp2_with fail
     go_ret
     exact ⟨rfl,(Below.refl _ _).alloc (Nat.le_refl _) _⟩
    ·simp only [Bool.false_eq_true,if_false,if_true]
     go_enter Tryz.func131,Tryz.ntmps131
     go_wp2_with fail
     all_goals (go_ret;exact ⟨qc0 (by simp_all<;>omega),(Below.refl _ _).alloc (Nat.le_refl _) _⟩)
   ·simp only [Bool.false_eq_true,if_false,if_true]
    go_enter Tryz.func131,Tryz.ntmps131
    go_wp2_with fail
    all_goals (go_ret;exact ⟨qc0 (by simp_all<;>omega),(Below.refl _ _).alloc (Nat.le_refl _) _⟩)
  ·simp only [Bool.false_eq_true,if_false,if_true]
   go_enter Tryz.func131,Tryz.ntmps131
   go_wp2_with fail
   all_goals (go_ret;exact ⟨qc0 (by simp_all<;>omega),(Below.refl _ _).alloc (Nat.le_refl _) _⟩)
 ·simp only [if_true]
  go_enter Tryz.func131,Tryz.ntmps131
  go_wp2_with fail
  all_goals (go_ret;exact ⟨qc0 (by simp_all<;>omega),(Below.refl _ _).alloc (Nat.le_refl _) _⟩)
theorem jf2 (s:ByteArray) (w:World):Calls Tryz.prog 130 #[.string s] w fun e w'=>e=.returned (.bool (qi2 s.data.toList))∧Below w.heap.size w w':=by
 have hl:=j4 s
 by_cases h0:s.size=0
 ·have hr:qi2 s.data.toList=false:=by
   have e0:s.data.toList=[]:=List.eq_nil_of_length_eq_zero (by omega)
   rw [e0];rfl
  rw [hr]
  have h1:(s.size:Int)<1:=by omega
  clear hr
  go_enter Tryz.func130,Tryz.ntmps130
  go_wp2_with fail
  go_ret
  exact ⟨rfl,Below.refl _ _⟩
 have h1:¬(s.size:Int)<1:=by omega
 by_cases h16:s.size≤16
 ·have h16':¬(s.size:Int) > 16:=by omega
  have h16'':¬(16:Int)<(s.size:Int):=by omega
  have hlt:0<s.size:=by omega
  have hd:s.data.toList=s[0]::s.data.toList.drop 1:=by
   have:=List.drop_eq_getElem_cons (l:=s.data.toList) (i:=0) (by rw [j4];exact hlt)
   rw [List.drop_zero,j9 s 0 hlt] at this
   exact this
  have hN:qi2 s.data.toList=qs8 s.data.toList:=by unfold qi2;rw [hl,decide_eq_true h16,Bool.true_and]
  rw [hN]
  cases hb:qx9 s[0] with
  | false=>
   have hr:qs8 s.data.toList=false:=by
    unfold qs8
    rw [hd]
    simp [x5,hb]
   rw [hr]
   have Hb:=v7 hb
   clear hd hN hr hb
   go_enter Tryz.func130,Tryz.ntmps130
   go_wp2_with (go_at_call 181;refine (qe6 _ _).mono ?_;rintro e w' ⟨rfl,rfl⟩;rw [show qx8 (s[0].toNat:Int)=false from q9 Hb])
   go_ret
   exact ⟨rfl,Below.refl _ _⟩
  | true=>
   have W:=vr6 s (by omega) 0 hlt hb
   rw [List.drop_zero,Nat.zero_add] at W
   obtain ⟨z,hz⟩:∃z,x5 s.data.toList=z:=⟨_,rfl⟩
   have hzl:=qn9 s.data.toList
   have hz0:0<z:=by rw [←hz,hd];simp [x5,hb]
   rw [hz] at W hzl
   have hT:qi4 s.data.toList=if qn8 (s.data.toList.take z)=2 then ⟨2,0,s.data.toList.take z⟩ else j6 (qn8 (s.data.toList.take z)):=by rw [←hz];rfl
   have hB:qs8 s.data.toList=(decide (z=s.size)&&(qn8 s.data.toList==2)):=by
    unfold qs8
    rw [hz,hl,decide_eq_true hz0,Bool.true_and]
   have Hb:=v7 hb
   by_cases hk:qn8 (s.data.toList.take z)=2
   ·rw [hT,if_pos hk,vz9] at W
    have hr:qs8 s.data.toList=((z:Int)==(s.size:Int)):=by
     rw [hB]
     by_cases e:z=s.size
     ·rw [List.take_of_length_le (by omega)] at hk
      simp [e,hk]
     ·rw [decide_eq_false e,Bool.false_and,beq_eq_false_iff_ne.2 (show ¬(z:Int)=(s.size:Int) by omega)]
    rw [hr]
    unfold rtV at W
    have HW:=v7 W
    clear hd hN hr hb W hT hB hk hz
    go_enter Tryz.func130,Tryz.ntmps130
    go_wp2_with (first|(go_at_call 181;refine (qe6 _ _).mono ?_;rintro e w' ⟨rfl,rfl⟩;rw [show qx8 (s[0].toNat:Int)=true from q9 Hb])|(go_at_call 182;refine (q9 HW _).mono ?_;rintro e w1 ⟨rfl,hb1⟩))
    all_goals (go_ret;exact ⟨qc0 (by simp_all),hb1.alloc hb1.size _⟩)
   ·rw [hT,if_neg hk] at W
    have hk5:5≤qn8 (s.data.toList.take z)∧qn8 (s.data.toList.take z)≤15:=(kw_text (l:=Lib.toUpperA (s.data.toList.take z)) hk).2
    rw [rTk_kw rfl hk5.1 hk5.2] at W
    have hr:qs8 s.data.toList=false:=by
     rw [hB]
     by_cases e:z=s.size
     ·rw [List.take_of_length_le (by omega)] at hk
      rw [beq_eq_false_iff_ne.2 hk,Bool.and_false]
     ·rw [decide_eq_false e,Bool.false_and]
    rw [hr]
    unfold rtV at W
    have HW:=v7 W
    clear hd hN hr hb W hT hB hk hz hk5
    go_enter Tryz.func130,Tryz.ntmps130
    go_wp2_with (first|(go_at_call 181;refine (qe6 _ _).mono ?_;rintro e w' ⟨rfl,rfl⟩;rw [show qx8 (s[0].toNat:Int)=true from q9 Hb])|(go_at_call 182;refine (q9 HW _).mono ?_;rintro e w1 ⟨rfl,hb1⟩))
    all_goals (go_ret;exact ⟨rfl,hb1.alloc hb1.size _⟩)
 ·have hr:qi2 s.data.toList=false:=by unfold qi2;rw [hl,decide_eq_false h16,Bool.false_and]
  rw [hr]
  have h16':(s.size:Int) > 16:=by omega
  have h16'':(16:Int)<(s.size:Int):=by omega
  clear hr
  go_enter Tryz.func130,Tryz.ntmps130
  go_wp2_with fail
  go_ret
  exact ⟨rfl,Below.refl _ _⟩
end
section
theorem vi0 {ps:List Pr} {k:Nat} {p:Pr} (hp:ps[k]?=some p) (h:qi2 p.name=false∨qx5 p.val=false∨∃j q,j<k∧ps[j]?=some q∧(q.name==p.name)=true):vd3 ps k=false:=by
 unfold vd3
 rw [hp]
 simp only
 rcases h with h|h|⟨j,q,hj,hq,e⟩
 ·rw [h];rfl
 ·rw [h,Bool.and_false];rfl
 ·have:vk5 (ps.take k) p.name=true:=List.any_eq_true.2 ⟨q,List.mem_of_getElem? (i:=j) (by rw [List.getElem?_take_of_lt hj];exact hq),e⟩
  rw [this,Bool.not_true,Bool.and_false]
theorem okAt_good {ps:List Pr} {k:Nat} {p:Pr} (hp:ps[k]?=some p) (h1:qi2 p.name=true) (h2:qx5 p.val=true) (h3:∀j q,j<k→ps[j]?=some q→(q.name==p.name)=false):vd3 ps k=true:=by
 unfold vd3
 rw [hp]
 simp only
 have:vk5 (ps.take k) p.name=false:=by
  unfold vk5
  rw [List.any_eq_false]
  intro q hq
  obtain ⟨j,hj⟩:=List.getElem?_of_mem hq
  have hjl:=(List.getElem?_eq_some_iff.1 hj).1
  rw [List.length_take] at hjl
  rw [List.getElem?_take_of_lt (by omega)] at hj
  rw [h3 j q (by omega) hj]
  decide
 rw [h1,h2,this]
 rfl
theorem vw8 (a:Option Addr) (n cap:Nat) (h8:8<n) (w:World):Calls Tryz.prog 85 #[.slice a n cap] w fun e w'=>e=.returned (.bool false)∧Below w.heap.size w w':=by
 have h8':(8:Int)<(n:Int):=by omega
 go_enter Tryz.func85,Tryz.ntmps85
 go_wp2_with fail
 go_ret
 exact ⟨rfl,Below.refl _ _⟩
theorem revent_in (b off cap:Nat) (ps:List Pr) (w:World) (h8:ps.length≤8) (hsh:Short ps) (hw:EvAt w b off ps) (hlt:b<w.heap.size) :
  Calls Tryz.prog 85 #[.slice (some ⟨b,off,none⟩) ps.length cap] w fun e w'=>e=.returned (.bool (qz5 ps))∧Below w.heap.size w w':=by
 obtain ⟨n,hn⟩:∃n,ps.length=n:=⟨_,rfl⟩
 obtain ⟨E,hE⟩:∃E,qz5 ps=E:=⟨_,rfl⟩
 rw [hE,hn]
 have HBAD:Hid (∀k,k<n→vd3 ps k=false→E=false):=v7 fun k hk h=>by rw [←hE];exact evOk_bad (by omega) h
 have HGOOD:Hid ((∀j,j<n→vd3 ps j=true)→E=true):=v7 fun h=>by rw [←hE];exact vn3 h8 (fun j hj=>h j (by omega))
 have HW:=v7 hw
 have HSH:=v7 hsh
 have HN:=v7 hn
 rw [hn] at h8
 have h8':¬(8:Int)<(n:Int):=by omega
 clear hw hsh hE hn
 go_enter Tryz.func85,Tryz.ntmps85
 go_wp2_with fail
 go_loopw [3] (fun i wr=>∃k:Nat,k≤n∧i=.int .i64 k∧Hid (∀j,j<k→vd3 ps j=true)∧Hid (Below w.heap.size w wr)) (fun i _=>n - (intOf i).toNat)
 case atStart=>exact ⟨0,Nat.zero_le _,rfl,v7 (fun j hj=>absurd hj (by omega)),v7 (Below.refl _ _)⟩
 case round=>
  obtain ⟨k,hk,rfl,HK,B⟩:=hrel
  by_cases hkn:k<n
  ·obtain ⟨p,hp⟩:∃p,ps[k]?=some p:=⟨_,List.getElem?_eq_getElem (by have:=q9 HN;omega)⟩
   have hwr:=(q9 HW).below (q9 B) hlt
   obtain ⟨c0,c1,c2,c3⟩:=hwr k p hp
   have hbz:b<wr.heap.size:=Nat.lt_of_lt_of_le hlt (q9 B).size
   have hk0:(0:Int)≤(k:Int):=by omega
   have hk1:(k:Int)<(n:Int):=by omega
   have PR:=v7 (vx2 p.val ((q9 HSH) p (List.mem_of_getElem? hp)).2)
   have NM:Hid (∀w,Calls Tryz.prog 130 #[.string (BS p.name)] w fun e w'=>e=.returned (.bool (qi2 p.name))∧Below w.heap.size w w'):=v7 fun w=>jf2 (BS p.name) w
   obtain ⟨nb,hnb⟩:∃x,qi2 p.name=x:=⟨_,rfl⟩
   obtain ⟨vb,hvb⟩:∃x,qx5 p.val=x:=⟨_,rfl⟩
   rw [hnb] at NM
   rw [hvb] at PR
   have Hnb:=v7 hnb
   have Hvb:=v7 hvb
   have HP:=v7 hp
   simp only [vV] at PR
   clear hp hnb hvb hwr
   cases nb with
   | false=>
    have hEf:=q9 HBAD k hkn (vi0 (q9 HP) (.inl (q9 Hnb)))
    clear HK HBAD HGOOD
    go_wp2_with (first|(go_at_call 130;refine (q9 NM _).mono ?_;rintro e w1 ⟨rfl,hb1⟩;obtain ⟨hc,hf⟩:=v9 hb1;have B1:=v7 (v8 (q9 B) hb1);have hz1:=hb1.size;clear hb1)|(go_at_call 131;refine (q9 PR _).mono ?_;rintro e w2 ⟨rfl,hb2⟩;have B2:=v7 (v8 (q9 B1) hb2);clear hb2))
    go_ret
    exact ⟨by rw [hEf];rfl,q9 B2⟩
   | true=>
    cases vb with
    | false=>
     have hEf:=q9 HBAD k hkn (vi0 (q9 HP) (.inr (.inl (q9 Hvb))))
     clear HK HBAD HGOOD
     go_wp2_with (first|(go_at_call 130;refine (q9 NM _).mono ?_;rintro e w1 ⟨rfl,hb1⟩;obtain ⟨hc,hf⟩:=v9 hb1;have B1:=v7 (v8 (q9 B) hb1);have hz1:=hb1.size;clear hb1)|(go_at_call 131;refine (q9 PR _).mono ?_;rintro e w2 ⟨rfl,hb2⟩;have B2:=v7 (v8 (q9 B1) hb2);clear hb2))
     go_ret
     exact ⟨by rw [hEf];rfl,q9 B2⟩
    | true=>
     go_wp2_with (first|(go_at_call 130;refine (q9 NM _).mono ?_;rintro e w1 ⟨rfl,hb1⟩;obtain ⟨hc,hf⟩:=v9 hb1;have B1:=v7 (v8 (q9 B) hb1);have hz1:=hb1.size;clear hb1)|(go_at_call 131;refine (q9 PR _).mono ?_;rintro e w2 ⟨rfl,hb2⟩;have B2:=v7 (v8 (q9 B1) hb2);clear hb2))
     go_loopw [6] (fun i wr=>∃m:Nat,m≤k∧i=.int .i64 m∧Hid (∀j q,j<m→ps[j]?=some q→(q.name==p.name)=false)∧Hid (Below w.heap.size w wr)) (fun i _=>k - (intOf i).toNat)
     case atStart=>exact ⟨0,Nat.zero_le _,rfl,v7 (fun j q hj=>absurd hj (by omega)),B2⟩
     case round=>
      obtain ⟨m,hm,rfl,HM,BM⟩:=hrel
      by_cases hmk:m<k
      ·obtain ⟨q,hq⟩:∃q,ps[m]?=some q:=⟨_,List.getElem?_eq_getElem (by have:=q9 HN;omega)⟩
       have hwr:=(q9 HW).below (q9 BM) hlt
       obtain ⟨d0,_,_,_⟩:=hwr m q hq
       obtain ⟨e0,_,_,_⟩:=hwr k p (q9 HP)
       have hm0:(0:Int)≤(m:Int):=by omega
       have hm1:(m:Int)<(k:Int):=by omega
       have hm2:(m:Int)<(n:Int):=by omega
       have hst:((BS q.name).toList==(BS p.name).toList)=(q.name==p.name):=by rw [qi0,qi0]
       cases hx:(q.name==p.name) with
       | true=>
        rw [hx] at hst
        have hEf:=q9 HBAD k hkn (vi0 (q9 HP) (.inr (.inr ⟨m,q,hmk,hq,hx⟩)))
        clear HK HBAD HGOOD hwr hq hx HM
        go_wp2_with fail
        go_quiet (fail)
        go_wp2_with fail
        go_ret
        exact ⟨by rw [hEf];rfl,Go.below_drewN (q9 BM) _⟩
       | false=>
        rw [hx] at hst
        have HM2:Hid (∀j r,j<m+1→ps[j]?=some r→(r.name==p.name)=false):=v7 fun j r hj hr=>by
         by_cases hjm:j=m
         ·subst hjm;rw [hq] at hr;injection hr with hr;subst hr;exact hx
         ·exact q9 HM j r (by omega) hr
        clear HK HBAD HGOOD hwr hq hx HM
        go_wp2_with fail
        go_quiet (fail)
        go_wp2_with fail
        exact ⟨⟨m+1,by omega,rfl,HM2,v7 (Go.below_drewN (q9 BM) _)⟩,by simp [intOf];omega⟩
      ·have hmk':¬(m:Int)<(k:Int):=by omega
       have HK2:Hid (∀j,j<k+1→vd3 ps j=true):=v7 fun j hj=>by
        by_cases hjk:j=k
        ·subst hjk;exact okAt_good (q9 HP) (q9 Hnb) (q9 Hvb) (fun i q hi hq=>q9 HM i q (by omega) hq)
        ·exact q9 HK j (by omega)
       clear HK HBAD HGOOD HM
       go_wp2_with fail
       exact ⟨⟨k+1,by omega,rfl,HK2,BM⟩,by simp [intOf];omega⟩
  ·have hkn':k=n:=by omega
   subst hkn'
   have hEt:=q9 HGOOD (q9 HK)
   clear HK HBAD HGOOD
   go_wp2_with fail
   go_ret
   exact ⟨by rw [hEt];rfl,q9 B⟩
end
section
theorem vr2 (a:Option Addr) (cap:Nat) (ps:List Pr) (s:ByteArray) (w:World) (h8:ps.length≤1000) (hw:∀(k:Nat) (p:Pr),ps[k]?=some p→∃b off,a=some ⟨b,off,none⟩∧b<w.heap.size∧EvAt w b off ps) :
  Calls Tryz.prog 218 #[.slice a ps.length cap,.string s] w fun e w'=>e=.returned (vV (qs6 ps s.data.toList))∧Below w.heap.size w w':=by
 obtain ⟨F,hF⟩:∃f,qs6 ps s.data.toList=f:=⟨_,rfl⟩
 obtain ⟨n,hn⟩:∃n,ps.length=n:=⟨_,rfl⟩
 rw [hF,hn]
 have HF:=v7 hF
 have HN:=v7 hn
 have HW:=v7 hw
 rw [hn] at h8
 clear hF hn hw
 go_enter Tryz.func218,Tryz.ntmps218
 go_wp2_with fail
 go_loop [5] (fun i=>∃k:Nat,k≤n∧i=.int .i64 k∧Hid (F=qs6 (ps.drop k) s.data.toList)) (fun i=>n - (intOf i).toNat)
 case atStart=>exact ⟨0,Nat.zero_le _,rfl,v7 (by rw [List.drop_zero,q9 HF])⟩
 case round=>
  obtain ⟨k,hk,rfl,hh⟩:=hrel
  by_cases hlt2:k<n
  ·obtain ⟨p,hp⟩:∃p,ps[k]?=some p:=⟨_,List.getElem?_eq_getElem (by have:=q9 HN;omega)⟩
   obtain ⟨b,off,rfl,hlt,hev⟩:=q9 HW k p hp
   obtain ⟨h1,h2,h3,h4⟩:=hev k p hp
   have hA:=vn6 (n:=s.data.toList) hp
   have hst:((BS p.name).toList==s.toList)=(p.name==s.data.toList):=by rw [qi0,Lib.toList_data]
   have hk0:(0:Int)≤(k:Int):=by omega
   have hk1:(k:Int)<(n:Int):=by omega
   have hne:¬b=w.heap.size:=by omega
   cases he:(p.name==s.data.toList) with
   | true=>
    rw [he,if_pos rfl] at hA
    rw [he] at hst
    have HT:Hid (F=p.val):=v7 (by rw [q9 hh,hA])
    clear hA hp he hh hev HW
    go_wp2_with fail
    refine bodyPost_ret (by simp [results,Tryz.results218,go_sem]<;>rfl) rfl ⟨?_, ?_⟩
    ·rw [q9 HT];rfl
    ·repeat' (first|exact (Below.refl _ _).alloc (Nat.le_refl _) _|refine Below.setCell ?_ (by simp) _)
   | false=>
    rw [he,if_neg (by simp)] at hA
    rw [he] at hst
    have HT:Hid (F=qs6 (ps.drop (k+1)) s.data.toList):=v7 (by rw [q9 hh,hA])
    clear hA hp he hh hev HW
    go_wp2_with fail
    go_round
    case rel=>exact ⟨k+1,by omega,by go_num,HT⟩
    case measure=>simp [intOf];omega
  ·have HT:Hid (F=nV):=v7 (by rw [q9 hh,List.drop_of_length_le (by have:=q9 HN;omega)];rfl)
   have hk1:¬(k:Int)<(n:Int):=by omega
   clear hh
   go_wp2_with fail
   refine bodyPost_ret (by simp [results,Tryz.results218,go_sem]<;>rfl) rfl ⟨?_, ?_⟩
   ·rw [q9 HT];rfl
   ·repeat' (first|exact (Below.refl _ _).alloc (Nat.le_refl _) _|refine Below.setCell ?_ (by simp) _)
end
section
structure Bz (p:Pay):Prop where
 name:p.op=0→p.num=0∧p.esc=[]∧qs8 p.str=true
 num:p.op=1→0≤p.num∧p.str=[]∧p.esc=[]
 text:p.op=2→p.num=0∧p.esc=[]
 bare:p.op=3∨p.op=4∨p.op=5∨p.op=23→p.num=0∧p.str=[]∧p.esc=[]
 like:p.op=22→p.num=0∧(p.esc=[]∨p.esc.length=1∧(qk3 p.esc p.str).isSome=true)
def BzA:Ast→Prop
 | .leaf p=>Bz p
 | .un p x=>Bz p∧BzA x
 | .bin p x y=>Bz p∧BzA x∧BzA y
 | .tri p x y z=>Bz p∧BzA x∧BzA y∧BzA z
theorem bz0 {op pl:Int} (h:op≠0):Bz ⟨op,pl,0,[],[],[]⟩:=⟨fun e=>absurd e h,fun _=>⟨Int.le_refl _,rfl,rfl⟩,fun _=>⟨rfl,rfl⟩,fun _=>⟨rfl,rfl,rfl⟩,fun _=>⟨rfl,.inl rfl⟩⟩
theorem bz_name {pl:Int} {s:List UInt8} (h:qs8 s=true):Bz ⟨0,pl,0,s,[],[]⟩:=by
 constructor<;>intro e<;>simp at e
 exact ⟨rfl,rfl,h⟩
theorem bz_num {pl n:Int} (h:0≤n):Bz ⟨1,pl,n,[],[],[]⟩:=by
 constructor<;>intro e<;>simp at e
 exact ⟨h,rfl,rfl⟩
theorem bz_text {pl:Int} {s:List UInt8}:Bz ⟨2,pl,0,s,[],[]⟩:=by
 constructor<;>intro e<;>simp at e
 exact ⟨rfl,rfl⟩
theorem bz_among {pl:Int} {ts:List (List UInt8)}:Bz ⟨21,pl,0,[],[],ts⟩:=by
 constructor<;>intro e<;>simp at e
theorem bz_lk {pl:Int} {s e:List UInt8} (h:e=[]∨e.length=1∧(qk3 e s).isSome=true):Bz ⟨22,pl,0,s,e,[]⟩:=by
 constructor<;>intro e<;>simp at e
 exact ⟨rfl,h⟩
theorem opOf_ne (k:Int):qu8 k≠0:=by
 unfold qu8
 repeat' split
 all_goals decide
theorem vx9 (p:UInt8→Bool):∀(l:List UInt8) (n:Nat),n≤qa4 p l→qa4 p (l.take n)=n:=by
 intro l
 induction l with
 | nil=>intro n h;simp [qa4] at h;subst h;rfl
 | cons c t ih=>
  intro n h
  cases n with
  | zero=>rfl
  | succ n=>
   unfold qa4 at h
   by_cases hc:p c=true
   ·rw [if_pos hc] at h
    have:=ih n (by omega)
    simp [qa4,hc,this]
   ·rw [if_neg hc] at h
    omega
theorem name_tk {l:List UInt8} (h:(qe4 l).kind=2):qs8 (qe4 l).str=true:=by
 cases l with
 | nil=>simp [qe4,j6] at h
 | cons c t=>
  by_cases hb:qx9 c=true
  ·have e:qe4 (c::t)=qi4 (c::t):=by simp [qe4,hb]
   rw [e] at h ⊢
   by_cases hw:qn8 ((c::t).take (x5 (c::t)))=2
   ·have e2:qi4 (c::t)=⟨2,0,(c::t).take (x5 (c::t))⟩:=by unfold qi4;rw [if_pos hw]
    rw [e2]
    have hs:x5 (c::t)=qa4 qs9 t+1:=by simp [x5,hb]
    have hz:x5 ((c::t).take (x5 (c::t)))=x5 (c::t):=by
     rw [hs,List.take_succ_cons]
     simp only [x5,hb,if_true]
     rw [vx9 qs9 t _ (Nat.le_refl _)]
    have hl:=qn9 (c::t)
    unfold qs8
    simp only [hz,hw,List.length_take]
    rw [Nat.min_eq_left hl]
    simp [hs]
   ·have e2:qi4 (c::t)=j6 (qn8 ((c::t).take (x5 (c::t)))):=by unfold qi4;rw [if_neg hw]
    rw [e2] at h
    exact absurd h hw
  ·exfalso
   have hb:qx9 c=false:=by simpa using hb
   by_cases hd:qj7 c=true
   ·have e:qe4 (c::t)=qq6 (c::t):=by simp [qe4,hb,hd]
    rw [e] at h
    unfold qq6 at h
    split at h
    ·simp at h
    ·simp [j6] at h
   ·have hd:qj7 c=false:=by simpa using hd
    by_cases hq:(c==39)=true
    ·have e:qe4 (c::t)=qh9 (c::t):=by simp [qe4,hb,hd,hq]
     rw [e] at h
     unfold qh9 at h
     split at h
     ·simp at h
     ·simp [j6] at h
    ·have hq:(c==39)=false:=by simpa using hq
     have e:qe4 (c::t)=j6 (qp8 (c::t)):=by simp [qe4,hb,hd,hq]
     rw [e] at h
     have h:qp8 (c::t)=2:=h
     unfold qp8 at h
     split at h
     ·omega
     ·unfold vh4 at h
      repeat' split at h
      all_goals omega
theorem num_tk {l:List UInt8}:0≤(qe4 l).num:=by
 cases l with
 | nil=>simp [qe4,j6]
 | cons c t=>
  have hw:∀l,0≤(qi4 l).num:=fun l=>by unfold qi4;split<;>simp [j6]
  have hn:∀l,0≤(qq6 l).num:=fun l=>by
   unfold qq6
   split
   ·simp
   ·simp [j6]
  have hq:∀l,0≤(qh9 l).num:=fun l=>by unfold qh9;split<;>simp [j6]
  show 0≤(if qx9 c then qi4 (c::t) else if qj7 c then qq6 (c::t) else if c==39 then qh9 (c::t) else j6 (qp8 (c::t))).num
  split
  ·exact hw _
  ·split
   ·exact hn _
   ·split
    ·exact hq _
    ·exact Int.le_refl _
def TkZ (st:St):Prop:=(st.tk.kind=2→qs8 st.tk.str=true)∧0≤st.tk.num
theorem qf5 {s:ByteArray} (_:s.size≤200) (st:St):TkZ (v6 s st):=by
 show ((qd3 _ _).kind=2→qs8 (qd3 _ _).str=true)∧0≤(qd3 _ _).num
 unfold qd3
 split
 ·exact ⟨name_tk,num_tk⟩
 ·exact ⟨fun h=>by simp [j6] at h,by simp [j6]⟩
def ZGood (f:St→Res):Prop:=∀st t st',TkZ st→f st=.ok t st'→BzA t∧TkZ st'
def vm2 (g:Ast→St→Res):Prop:=∀l st t st',BzA l→TkZ st→g l st=.ok t st'→BzA t∧TkZ st'
theorem ZGood.join {s:ByteArray} (H:s.size≤200) {f:St→Res} (h:ZGood f):∀st l t st',BzA l→qc2 s f st l=.ok t st'→BzA t∧TkZ st':=by
 intro st l t st' hl he
 unfold qc2 at he
 split at he
 ·rename_i r st2 hr;injection he with h1 h2;subst h1;subst h2
  have:=h _ _ _ (qf5 H st) hr
  exact ⟨⟨bz0 (opOf_ne _),hl,this.1⟩,this.2⟩
 ·cases he
theorem ZGood.loop {s:ByteArray} (H:s.size≤200) {f:St→Res} {ks:List Int} (h:ZGood f):∀n l st t st',BzA l→TkZ st→qa7 s f ks n l st=.ok t st'→BzA t∧TkZ st':=by
 intro n
 induction n with
 | zero=>intro l st t st' hl hs he;rw [qa7] at he;injection he with h1 h2;subst h1;subst h2;exact ⟨hl,hs⟩
 | succ n ih=>
  intro l st t st' hl hs he
  rw [qa7] at he
  split at he
  ·split at he
   ·rename_i hj;have:=h.join H _ _ _ _ hl hj;exact ih _ _ _ _ this.1 this.2 he
   ·cases he
  ·injection he with h1 h2;subst h1;subst h2;exact ⟨hl,hs⟩
theorem ZGood.row {s:ByteArray} (H:s.size≤200) {f:St→Res} {ks:List Int} (h:ZGood f):ZGood (qe2 s f ks):=by
 intro st t st' hs he
 unfold qe2 at he
 split at he
 ·rename_i hr;have:=h _ _ _ hs hr;exact h.loop H _ _ _ _ _ this.1 this.2 he
 ·cases he
theorem ZGood.sign {s:ByteArray} (H:s.size≤200) {f:St→Res} (h:ZGood f) (o:Int) (ho:o≠0):ZGood (qd4 s f o):=by
 intro st t st' _ he
 unfold qd4 at he
 split at he
 ·cases he
 ·split at he
  ·rename_i hr;injection he with h1 h2;subst h1;subst h2
   have:=h (qj8 s st) _ _ (qf5 H st) hr
   exact ⟨⟨bz0 ho,this.1⟩,this.2⟩
  ·cases he
theorem ZGood.group {s:ByteArray} (H:s.size≤200) {f:St→Res} (h:ZGood f):ZGood (qd2 s f):=by
 intro st t st' _ he
 unfold qd2 at he
 split at he
 ·cases he
 ·split at he
  ·rename_i hr;split at he
   ·injection he with h1 h2;subst h1;subst h2
    exact ⟨(h (qj8 s st) _ _ (qf5 H st) hr).1,qf5 H _⟩
   ·cases he
  ·cases he
theorem ZGood.signed {s:ByteArray} (H:s.size≤200) {fS fE:St→Res} (hS:ZGood fS) (hE:ZGood fE):ZGood (qb7 s fS fE):=by
 intro st t st' hs he
 unfold qb7 at he
 split at he
 ·exact hS.sign H 14 (by decide) _ _ _ hs he
 split at he
 ·exact hS.sign H 15 (by decide) _ _ _ hs he
 split at he
 ·exact hE.group H _ _ _ hs he
 split at he
 ·injection he with h1 h2;subst h1;subst h2;exact ⟨bz_name (hs.1 (by assumption)),qf5 H st⟩
 split at he
 ·injection he with h1 h2;subst h1;subst h2;exact ⟨bz_num hs.2,qf5 H st⟩
 split at he
 ·injection he with h1 h2;subst h1;subst h2;exact ⟨bz_text,qf5 H st⟩
 split at he
 ·injection he with h1 h2;subst h1;subst h2;exact ⟨bz0 (by decide),qf5 H st⟩
 split at he
 ·injection he with h1 h2;subst h1;subst h2;exact ⟨bz0 (by decide),qf5 H st⟩
 ·cases he
theorem bz_isNull {s:ByteArray} (H:s.size≤200):vm2 (qd0 s):=by
 intro l st t st' hl _ he
 unfold qd0 at he
 split at he
 ·split at he
  ·injection he with h1 h2;subst h1;subst h2;exact ⟨⟨(bz0 (by decide)),(bz0 (by decide)),hl⟩,qf5 H _⟩
  ·cases he
 ·split at he
  ·injection he with h1 h2;subst h1;subst h2;exact ⟨⟨(bz0 (by decide)),hl⟩,qf5 H _⟩
  ·cases he
theorem bz_inLoop {s:ByteArray} (H:s.size≤200) {l:Ast} {pl:Nat} (hl:BzA l):∀n ts st t st',qg1 s l pl n ts st=.ok t st'→BzA t∧TkZ st':=by
 intro n
 induction n with
 | zero=>intro ts st t st' he;rw [qg1] at he;cases he
 | succ n ih=>
  intro ts st t st' he
  rw [qg1] at he
  split at he
  ·split at he
   ·exact ih _ _ _ _ he
   ·cases he
  ·split at he
   ·injection he with h1 h2;subst h1;subst h2;exact ⟨⟨bz_among,hl⟩,qf5 H _⟩
   ·cases he
theorem bz_in {s:ByteArray} (H:s.size≤200):vm2 (qh7 s):=by
 intro l st t st' hl _ he
 unfold qh7 at he
 split at he
 ·split at he
  ·exact bz_inLoop H hl _ _ _ _ _ he
  ·cases he
 ·cases he
theorem jc8 {s:ByteArray} {ft:Tk} {fp:Nat} {st:St} {str:List UInt8} {st':St} (h:qq4 s ft fp st=.ok str st'):str.length=1∧(qk3 str ft.str).isSome=true:=by
 unfold qq4 at h
 split at h
 ·split at h
  ·rename_i h1
   split at h
   ·rename_i h2
    injection h with e1 _;subst e1;exact ⟨h1,h2⟩
   ·cases h
  ·cases h
 ·cases h
theorem bz_like {s:ByteArray} (H:s.size≤200):vm2 (qa9 s):=by
 intro l st t st' hl _ he
 unfold qa9 at he
 split at he
 ·split at he
  ·split at he
   ·rename_i hk;injection he with h1 h2;subst h1;subst h2;rw [(qv8 hk).2];exact ⟨⟨bz_lk (.inr (jc8 hk)),hl⟩,qf5 H _⟩
   ·cases he
  ·injection he with h1 h2;subst h1;subst h2;exact ⟨⟨bz_lk (.inl rfl),hl⟩,qf5 H _⟩
 ·cases he
theorem ZGood.between {s:ByteArray} (H:s.size≤200) {f:St→Res} (h:ZGood f):vm2 (qa0 s f):=by
 intro l st t st' hl _ he
 unfold qa0 at he
 split at he
 ·split at he
  ·rename_i h1;split at he
   ·split at he
    ·rename_i h2;injection he with h3 h4;subst h3;subst h4
     have a:=h _ _ _ (qf5 H _) h1
     have b:=h _ _ _ (qf5 H _) h2
     exact ⟨⟨(bz0 (by decide)),hl,a.1,b.1⟩,b.2⟩
    ·cases he
   ·cases he
  ·cases he
 ·cases he
theorem ZGood.keyword {s:ByteArray} (H:s.size≤200) {f:St→Res} (h:ZGood f) (bare:Bool):vm2 (qa2 s f (qh7 s) (qa9 s) bare):=by
 intro l st t st' hl hs he
 unfold qa2 at he
 split at he
 ·exact bz_in H _ _ _ _ hl hs he
 split at he
 ·exact bz_like H _ _ _ _ hl hs he
 ·exact h.between H _ _ _ _ hl hs he
theorem ZGood.test {s:ByteArray} (H:s.size≤200) {f:St→Res} (h:ZGood f):ZGood (qg6 s f (qh7 s) (qa9 s)):=by
 intro st t st' hs he
 unfold qg6 at he
 split at he
 ·rename_i hr
  obtain ⟨hl,hs1⟩:=h _ _ _ hs hr
  unfold qa3 at he
  split at he
  ·exact h.join H _ _ _ _ hl he
  split at he
  ·split at he
   ·exact bz_isNull H _ _ _ _ hl hs1 he
   ·injection he with h1 h2;subst h1;subst h2;exact ⟨hl,hs1⟩
  split at he
  ·split at he
   ·rename_i hk;injection he with h1 h2;subst h1;subst h2
    have:=h.keyword H _ _ _ _ _ hl (qf5 H _) hk
    exact ⟨⟨(bz0 (by decide)),this.1⟩,this.2⟩
   ·cases he
  split at he
  ·exact h.keyword H _ _ _ _ _ hl hs1 he
  ·injection he with h1 h2;subst h1;subst h2;exact ⟨hl,hs1⟩
 ·cases he
theorem ZGood.denied {s:ByteArray} (H:s.size≤200) {fD fT:St→Res} (hD:ZGood fD) (hT:ZGood fT):ZGood (qd6 s fD fT):=by
 intro st t st' hs he
 unfold qd6 at he
 split at he
 ·exact hD.sign H 5 (by decide) _ _ _ hs he
 ·exact hT _ _ _ hs he
structure ZGood3 (L:L3):Prop where
 S:ZGood L.S
 D:ZGood L.D
 E:ZGood L.E
theorem up3_bz {s:ByteArray} (H:s.size≤200) {L:L3} (h:ZGood3 L):ZGood3 (up3 s L):=by
 have hS:=ZGood.signed (s:=s) H h.S h.E
 have hD:=ZGood.denied (s:=s) H h.D (ZGood.test (s:=s) H ((hS.row (s:=s) H (ks:=[24,25])).row (s:=s) H (ks:=[22,23])))
 exact ⟨hS,hD,(hD.row (s:=s) H (ks:=[5])).row (s:=s) H (ks:=[6])⟩
theorem lvl_bz (s:ByteArray) (H:s.size≤200):∀d,ZGood3 (lvl s d):=by
 intro d
 induction d with
 | zero=>exact up3_bz H ⟨(fun _ _ _ _ h=>by cases h),(fun _ _ _ _ h=>by cases h),(fun _ _ _ _ h=>by cases h)⟩
 | succ d ih=>exact up3_bz H ih
theorem jc1 {s:ByteArray} {t:Ast} (h:qq1 s=.ok t):BzA t:=by
 unfold qq1 at h
 by_cases hs:s.size≤200
 ·rw [if_pos hs] at h
  cases he:(lvl s 12).E (v6 s st0) with
  | err en pl=>rw [he] at h;cases h
  | ok t' st=>
   rw [he] at h
   have hq:=((lvl_bz s hs 12).E _ _ _ (qf5 hs st0) he).1
   simp only [endR] at h
   split at h
   ·split at h
    ·injection h with e;subst e;exact hq
    ·cases h
   ·cases h
 ·rw [if_neg hs] at h;cases h
end
section
theorem upto_any (le mo:Int) (WI:World→Prop) (w:World) (v:Value) (l:List Ox) (hl:OpsAt w v l) (h0:WI (w.alloc (.cells #[.slice none 0 0,.slice none 0 0] 61))) (hbel:∀W,WI W→Below w.heap.size w W) (hkeep:∀W W',WI W→Below W.heap.size W W'→WI W')
  (hstep:∀W x,WI W→OxOk W x→((le≤x.kind∧x.kind≤mo)∨(5≤x.kind∧5≤mo))→Calls Tryz.prog 33 #[.pointer (some ⟨w.heap.size,0,none⟩),oxV x] W fun e W'=>e=.returned (.bool true)∧WI W')
  (hlooks:∀W,WI W→Calls Tryz.prog 34 #[.pointer (some ⟨w.heap.size,0,none⟩)] W fun e W'=>e=.returned (.bool true)∧WI W') :
  Calls Tryz.prog 15 #[v,.int .i64 le,.int .i64 mo] w fun e w'=>e=.returned (.int .i64 (-1))∧WI w':=by
 obtain ⟨a,cap,rfl,hcap,hbig,hops⟩:=hl
 obtain ⟨n,hn⟩:∃n,l.length=n:=⟨_,rfl⟩
 rw [hn] at hcap hbig ⊢
 have HN:=v7 hn
 have HO:=v7 hops
 have H0:=v7 h0
 have HBL:=v7 hbel
 have HKP:=v7 hkeep
 have HST:=v7 hstep
 have LKS:=v7 hlooks
 clear hn hops h0 hbel hkeep hstep hlooks
 go_enter Tryz.func15,Tryz.ntmps15
 go_wp2_with fail
 go_loopw [8] (fun i wr=>∃k:Nat,k≤n∧i=.int .i64 k∧Hid (WI wr)) (fun i _=>n - (intOf i).toNat)
 case atStart=>exact ⟨0,Nat.zero_le _,rfl,H0⟩
 case round=>
  clear H0
  obtain ⟨k,hk,rfl,HW0⟩:=hrel
  by_cases hlt:k<n
  ·obtain ⟨x,hx⟩:∃x,l[k]?=some x:=⟨_,List.getElem?_eq_getElem (by have:=q9 HN;omega)⟩
   obtain ⟨ok,b,off,rfl,hb,hc⟩:=q9 HO k x hx
   have hbe:=q9 HBL _ (q9 HW0)
   have hbr:b<wr.heap.size:=by have:=hbe.size;omega
   have okr:=ok.below hbe
   have hcr:∀j,j<6→wr.cell? ⟨b,off+k * 6+j,none⟩=(vc2 x)[j]?:=fun j hj=>((v9 hbe).1 _ _ hb).trans (hc j hj)
   have hsl:∃ea en ec,x.ev=.slice ea en ec:=ok.ev.slice
   obtain ⟨kind,nn,id,text,la,lc,ts,ev,ps⟩:=x
   obtain ⟨ea,en,ec,hev⟩:=hsl
   simp only at hev
   subst hev
   obtain ⟨lt,hlt2⟩:∃t,ts.length=t:=⟨_,rfl⟩
   have c0:wr.cell? ⟨b,off+k * 6,none⟩=some (.int .i64 kind):=hcr 0 (by omega)
   have c1:wr.cell? ⟨b,off+k * 6+1,none⟩=some (.int .i64 nn):=hcr 1 (by omega)
   have c2:wr.cell? ⟨b,off+k * 6+2,none⟩=some (.int .i64 id):=hcr 2 (by omega)
   have c3:wr.cell? ⟨b,off+k * 6+3,none⟩=some (.string (BS text)):=hcr 3 (by omega)
   have c4:wr.cell? ⟨b,off+k * 6+4,none⟩=some (.slice la ts.length lc):=hcr 4 (by omega)
   have c5:wr.cell? ⟨b,off+k * 6+5,none⟩=some (.slice ea en ec):=hcr 5 (by omega)
   have hal:=(Below.refl wr.heap.size wr).alloc (Nat.le_refl _) (.cells #[.int .i64 kind,.int .i64 nn,.int .i64 id,.string (BS text),.slice la ts.length lc,.slice ea en ec] 64)
   have HW:=v7 (q9 HKP _ _ (q9 HW0) hal)
   have HOX:=v7 (okr.below hal)
   have STP:Hid (((le≤kind∧kind≤mo)∨(5≤kind∧5≤mo))→∀W,WI W→OxOk W ⟨kind,nn,id,text,la,lc,ts,.slice ea en ec,ps⟩→Calls Tryz.prog 33 #[.pointer (some ⟨w.heap.size,0,none⟩),.agg #[.int .i64 kind,.int .i64 nn,.int .i64 id,.string (BS text),.slice la ts.length lc,.slice ea en ec]] W fun e W'=>e=.returned (.bool true)∧WI W'):=v7 fun hh W h1 h2=>q9 HST W ⟨kind,nn,id,text,la,lc,ts,.slice ea en ec,ps⟩ h1 h2 hh
   rw [hlt2] at c4 HW HOX STP
   have hk0:(0:Int)≤(k:Int):=by omega
   have hk1:(k:Int)<(n:Int):=by omega
   have nb:¬b=wr.heap.size:=by omega
   clear hx ok hc hbe okr hcr hal HO HST HKP HBL hlt2
   rcases (show (le≤kind∧kind≤mo)∨(le≤kind∧¬kind≤mo)∨¬le≤kind by omega) with ⟨h1,h2⟩|⟨h1,h2⟩|h1
   ·have STP:=v7 (q9 STP (by omega))
    go_wp2_with (first|(go_at_call 33;refine (q9 STP _ (q9 HW) (q9 HOX)).mono ?_;rintro e w2 ⟨rfl,hw2⟩;have HW2:=v7 hw2;clear hw2)|(go_at_call 34;refine (q9 LKS _ (q9 HW2)).mono ?_;rintro e w3 ⟨rfl,hw3⟩;have HW3:=v7 hw3;clear hw3))
    go_roundw
    case rel=>exact ⟨k+1,by omega,by go_num,HW3⟩
    case measure=>simp [intOf];omega
   ·skip
    rcases (show kind<5∨(¬kind<5∧mo<5)∨(¬kind<5∧¬mo<5) by omega) with h3|⟨h3,h4⟩|⟨h3,h4⟩
    ·clear STP
     go_wp2_with fail
     go_roundw
     case rel=>exact ⟨k+1,by omega,by go_num,HW⟩
     case measure=>simp [intOf];omega
    ·clear STP
     go_wp2_with fail
     go_roundw
     case rel=>exact ⟨k+1,by omega,by go_num,HW⟩
     case measure=>simp [intOf];omega
    ·have STP:=v7 (q9 STP (by omega))
     go_wp2_with (first|(go_at_call 33;refine (q9 STP _ (q9 HW) (q9 HOX)).mono ?_;rintro e w2 ⟨rfl,hw2⟩;have HW2:=v7 hw2;clear hw2)|(go_at_call 34;refine (q9 LKS _ (q9 HW2)).mono ?_;rintro e w3 ⟨rfl,hw3⟩;have HW3:=v7 hw3;clear hw3))
     go_roundw
     case rel=>exact ⟨k+1,by omega,by go_num,HW3⟩
     case measure=>simp [intOf];omega
   ·skip
    rcases (show kind<5∨(¬kind<5∧mo<5)∨(¬kind<5∧¬mo<5) by omega) with h3|⟨h3,h4⟩|⟨h3,h4⟩
    ·clear STP
     go_wp2_with fail
     go_roundw
     case rel=>exact ⟨k+1,by omega,by go_num,HW⟩
     case measure=>simp [intOf];omega
    ·clear STP
     go_wp2_with fail
     go_roundw
     case rel=>exact ⟨k+1,by omega,by go_num,HW⟩
     case measure=>simp [intOf];omega
    ·have STP:=v7 (q9 STP (by omega))
     go_wp2_with (first|(go_at_call 33;refine (q9 STP _ (q9 HW) (q9 HOX)).mono ?_;rintro e w2 ⟨rfl,hw2⟩;have HW2:=v7 hw2;clear hw2)|(go_at_call 34;refine (q9 LKS _ (q9 HW2)).mono ?_;rintro e w3 ⟨rfl,hw3⟩;have HW3:=v7 hw3;clear hw3))
     go_roundw
     case rel=>exact ⟨k+1,by omega,by go_num,HW3⟩
     case measure=>simp [intOf];omega
  ·have hnk:¬(k:Int)<(n:Int):=by omega
   go_wp2_with fail
   go_ret
   exact ⟨rfl,q9 HW0⟩
end
end Go.Proofs.YtfkcaldjphakpaaGreatDoor
