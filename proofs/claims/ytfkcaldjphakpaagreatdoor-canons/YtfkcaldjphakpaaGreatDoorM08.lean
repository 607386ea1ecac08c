/- Terms by their sides; classes. demand. The class of a whole selector. demandAlike, class, checkClasses. class, checkClasses. Op.Join. The contract of events.Valid. -/
import Derived.Test.YtfkcaldjphakpaaGreatDoorM03
import Derived.Deep.RegionHeld3
import Derived.Test.YtfkcaldjphakpaaGreatDoorM02
import Derived.Test.YtfkcaldjphakpaaGreatDoorM07
import Derived.Deep.RegionWith
import Derived.Deep.DeepCutAuto
import Derived.Deep.QuietTactic
import Derived.BigQuiet
set_option maxHeartbeats 4000000
set_option maxRecDepth 100000
namespace Go.Proofs.YtfkcaldjphakpaaGreatDoor
open Go.RowKit
section
def qg0:Ast→Pay
 | .leaf p=>p
 | .un p _=>p
 | .bin p _ _=>p
 | .tri p _ _ _=>p
def x9:Ast→List Ast
 | .leaf _=>[]
 | .un _ x=>[x]
 | .bin _ x y=>[x,y]
 | .tri _ x y z=>[x,y,z]
def SidesAt (lo:Nat) (w:World) (sv:Value) (ts:List Ast):Prop:=
 (ts=[]∧sv=.slice none 0 0)∨∃g,sv=.slice (some ⟨g,0,none⟩) ts.length ts.length∧lo<g∧g<w.heap.size∧∀(j:Nat) (x:Ast),ts[j]?=some x→∃b,w.cell? ⟨g,j,none⟩=some (.pointer (some ⟨b,0,none⟩))∧IsNode lo w (.pointer (some ⟨b,0,none⟩)) x
theorem IsNode.parts {lo:Nat} {w:World} {v:Value} {t:Ast} (h:IsNode lo w v t):∃b sv,v=.pointer (some ⟨b,0,none⟩)∧NodeAt lo w b (qg0 t) sv∧SidesAt lo w sv (x9 t):=by
 cases t with
 | leaf p=>obtain ⟨b,rfl,h⟩:=h;exact ⟨b,_,rfl,h,.inl ⟨rfl,rfl⟩⟩
 | un p x=>
  obtain ⟨b,g,v1,rfl,h,h1,h2,e1,n1⟩:=h
  refine ⟨b,_,rfl,h,.inr ⟨g,rfl,h1,h2,fun j y hj=>?_⟩⟩
  match j,hj with
  | 0,hj=>
   obtain rfl:x=y:=by simpa [x9] using hj
   obtain ⟨b1,rfl⟩:=n1.ptr;exact ⟨b1,e1,n1⟩
  | j+1,hj=>simp [x9] at hj
 | bin p x y=>
  obtain ⟨b,g,v1,v2,rfl,h,h1,h2,e1,e2,n1,n2⟩:=h
  refine ⟨b,_,rfl,h,.inr ⟨g,rfl,h1,h2,fun j z hj=>?_⟩⟩
  match j,hj with
  | 0,hj=>
   obtain rfl:x=z:=by simpa [x9] using hj
   obtain ⟨b1,rfl⟩:=n1.ptr;exact ⟨b1,e1,n1⟩
  | 1,hj=>
   obtain rfl:y=z:=by simpa [x9] using hj
   obtain ⟨b1,rfl⟩:=n2.ptr;exact ⟨b1,e2,n2⟩
  | j+2,hj=>simp [x9] at hj
 | tri p x y z=>
  obtain ⟨b,g,v1,v2,v3,rfl,h,h1,h2,e1,e2,e3,n1,n2,n3⟩:=h
  refine ⟨b,_,rfl,h,.inr ⟨g,rfl,h1,h2,fun j u hj=>?_⟩⟩
  match j,hj with
  | 0,hj=>
   obtain rfl:x=u:=by simpa [x9] using hj
   obtain ⟨b1,rfl⟩:=n1.ptr;exact ⟨b1,e1,n1⟩
  | 1,hj=>
   obtain rfl:y=u:=by simpa [x9] using hj
   obtain ⟨b1,rfl⟩:=n2.ptr;exact ⟨b1,e2,n2⟩
  | 2,hj=>
   obtain rfl:z=u:=by simpa [x9] using hj
   obtain ⟨b1,rfl⟩:=n3.ptr;exact ⟨b1,e3,n3⟩
  | j+3,hj=>simp [x9] at hj
theorem SidesAt.any {lo:Nat} {w:World} {sv:Value} {ts:List Ast} (h:SidesAt lo w sv ts):∃a,sv=.slice a ts.length ts.length∧∀(j:Nat) (x:Ast),ts[j]?=some x→∃g b,a=some ⟨g,0,none⟩∧lo<g∧g<w.heap.size∧w.cell? ⟨g,j,none⟩=some (.pointer (some ⟨b,0,none⟩))∧IsNode lo w (.pointer (some ⟨b,0,none⟩)) x:=by
 rcases h with ⟨rfl,rfl⟩|⟨g,rfl,h1,h2,h3⟩
 ·exact ⟨none,rfl,fun j x hj=>by simp at hj⟩
 ·exact ⟨some ⟨g,0,none⟩,rfl,fun j x hj=>by obtain ⟨b,hc,hn⟩:=h3 j x hj;exact ⟨g,b,rfl,h1,h2,hc,hn⟩⟩
theorem vv9 (t:Ast):(x9 t).length≤3:=by cases t<;>simp [x9]
inductive CRes where
 | ok (c:Int)
 | err (pl:Int)
def dem (want pl:Int):List CRes→Bool→Option Int
 | [],fit=>if fit then none else some pl
 | .err q::_,_=>some q
 | .ok c::t,fit=>dem want pl t (fit&&(c==want||c==0))
def qt5 (want pl c:Int) (rs:List CRes):CRes:=match dem want pl rs true with
 | none=>.ok c
 | some q=>.err q
def qm3 (pl:Int):CRes→CRes→CRes
 | .err q,_=>.err q
 | .ok _,.err q=>.err q
 | .ok l,.ok r=>if (l != r&&l != 0&&r != 0)=true then .err pl else .ok 3
def qh2 (op pl:Int) (rs:List CRes):CRes:=
 if op==0 then .ok 0 else if op==1 then .ok 1 else if op==2 then .ok 2
 else if op==5||op==6||op==7 then qt5 3 pl 3 rs
 else if op==10||op==11||op==12||op==13||op==20 then qt5 1 pl 3 rs
 else if op==14||op==15||op==16||op==17||op==18||op==19 then qt5 1 pl 1 rs
 else if op==8||op==9 then (match rs with
  | [a,b]=>qm3 pl a b
  | _=>.ok 3)
 else .ok 3
def qa4:Ast→CRes
 | .leaf p=>qh2 p.op p.place []
 | .un p x=>qh2 p.op p.place [qa4 x]
 | .bin p x y=>qh2 p.op p.place [qa4 x,qa4 y]
 | .tri p x y z=>qh2 p.op p.place [qa4 x,qa4 y,qa4 z]
theorem qd3 (t:Ast):qa4 t=qh2 (qg0 t).op (qg0 t).place ((x9 t).map qa4):=by cases t<;>rfl
def WfA:Ast→Prop
 | .leaf p=>¬p.op=8∧¬p.op=9
 | .un p x=>(¬p.op=8∧¬p.op=9)∧WfA x
 | .bin _ x y=>WfA x∧WfA y
 | .tri p x y z=>(¬p.op=8∧¬p.op=9)∧WfA x∧WfA y∧WfA z
theorem WfA.side {t x:Ast} (h:WfA t) (hx:x∈x9 t):WfA x:=by
 cases t with
 | leaf p=>simp [x9] at hx
 | un p y=>simp [x9] at hx;subst hx;exact h.2
 | bin p y z=>simp [x9] at hx;rcases hx with rfl|rfl;exact h.1;exact h.2
 | tri p y z u=>simp [x9] at hx;rcases hx with rfl|rfl|rfl;exact h.2.1;exact h.2.2.1;exact h.2.2.2
def ClsEnds (w:World) (r:CRes) (e:Ending) (w':World):Prop:=
 Below w.heap.size w w'∧match r with
 | .ok c=>e=.returned (.int .i64 c)
 | .err pl=>e=qb4 4 pl
def qg8 (lo:Nat) (t:Ast):Prop:=∀(w:World) (v:Value),IsNode lo w v t→Calls Tryz.prog 104 #[v] w (ClsEnds w (qa4 t))
theorem dem_err {want pl q:Int} {rs:List CRes} {j:Nat} {fit:Bool} (h:rs[j]?=some (.err q)):dem want pl (rs.drop j) fit=some q:=by
 obtain ⟨hj,he⟩:=List.getElem?_eq_some_iff.1 h
 rw [List.drop_eq_getElem_cons hj,he];rfl
theorem dem_ok {want pl c:Int} {rs:List CRes} {j:Nat} {fit:Bool} (h:rs[j]?=some (.ok c)):dem want pl (rs.drop j) fit=dem want pl (rs.drop (j+1)) (fit&&(c==want||c==0)):=by
 obtain ⟨hj,he⟩:=List.getElem?_eq_some_iff.1 h
 rw [List.drop_eq_getElem_cons hj,he];rfl
theorem dem_end {want pl:Int} {rs:List CRes} {j:Nat} {fit:Bool} (h:rs.length≤j):dem want pl (rs.drop j) fit=if fit then none else some pl:=by
 rw [List.drop_of_length_le h];rfl
end
section
def DemEnds (w:World) (r:Option Int) (e:Ending) (w':World):Prop:=Below w.heap.size w w'∧match r with
 | none=>e=.returned (.tuple #[])
 | some q=>e=qb4 4 q
theorem qe9 (lo:Nat) (t:Ast) (hcls:∀x∈x9 t,qg8 lo x) (want:Int) (w:World) (v:Value) (h:IsNode lo w v t) :
  Calls Tryz.prog 148 #[v,.int .i64 want] w (DemEnds w (dem want (qg0 t).place ((x9 t).map qa4) true)):=by
 obtain ⟨R,hR⟩:∃r,dem want (qg0 t).place ((x9 t).map qa4) true=r:=⟨_,rfl⟩
 rw [hR]
 have HR:=j4 hR
 obtain ⟨b,sv,rfl,hnode,hsides⟩:=h.parts
 obtain ⟨a,rfl,hside⟩:=hsides.any
 have hn3:=vv9 t
 obtain ⟨hab,hbw,c0,c1,c2,c3,c4,c5,c6⟩:=hnode
 obtain ⟨n,hn⟩:∃n,(x9 t).length=n:=⟨_,rfl⟩
 rw [hn] at c2 hn3
 have HN:=j4 hn
 have HS:=j4 hside
 have HC:=j4 hcls
 obtain ⟨pl,hpl⟩:∃pl,(qg0 t).place=pl:=⟨_,rfl⟩
 rw [hpl] at c1 HR
 clear hR hsides h c0 c3 c4 c5 c6 hn hside hcls hpl
 go_enter Tryz.func148,Tryz.ntmps148
 go_wp2_with fail
 go_loopw [4,13] (fun fit i wr=>∃(j:Nat) (fb:Bool),j≤n∧i=.int .i64 j∧fit=.bool fb∧Hid (R=dem want pl (((x9 t).map qa4).drop j) fb)∧Below w.heap.size w wr) (fun _ i _=>n - (intOf i).toNat)
 case atStart=>exact ⟨0,true,Nat.zero_le _,rfl,rfl,j4 (by rw [List.drop_zero,q9 HR]),Below.refl _ _⟩
 case round=>
  obtain ⟨j,fb,hj,rfl,rfl,hh,hbel⟩:=hrel
  have d1:=(hbel.cell (p:=⟨b,1,none⟩) hbw).trans c1
  by_cases hlt:j<n
  ·obtain ⟨x,hx⟩:∃x,(x9 t)[j]?=some x:=⟨_,List.getElem?_eq_getElem (by rw [q9 HN];exact hlt)⟩
   obtain ⟨g,bx,rfl,hg1,hg2,hcx,hnx⟩:=q9 HS j x hx
   have dx:=(hbel.cell (p:=⟨g,j,none⟩) hg2).trans hcx
   have hxm:x∈x9 t:=List.mem_of_getElem? hx
   have HNX:=j4 (hnx.kept (Kept.of_below hbel))
   have hm:((x9 t).map qa4)[j]?=some (qa4 x):=by rw [List.getElem?_map,hx];rfl
   have CX:=j4 (q9 HC x hxm)
   clear hx hnx hcx hxm
   cases hcl:qa4 x with
   | err q=>
    have HT:Hid (R=some q):=j4 (by rw [q9 hh,dem_err (by rw [hm,hcl])])
    have HCL:=j4 hcl
    clear hh hm hcl
    go_wp2_with (go_at_call 104;refine (q9 CX _ _ (q9 HNX)).mono ?_;rintro e w1 ⟨hb1,h1⟩;rw [q9 HCL] at h1;subst h1;simp only [qb4])
    rw [q9 HT]
    exact ⟨rfl,j6 hbel hb1,rfl⟩
   | ok c=>
    have HT:Hid (R=dem want pl (((x9 t).map qa4).drop (j+1)) (fb&&(c==want||c==0))):=j4 (by rw [q9 hh,dem_ok (by rw [hm,hcl])])
    have HCL:=j4 hcl
    clear hh hm hcl
    cases fb<;>cases hcw:(c==want)<;>cases hc0:(c==0)
    all_goals
     rw [hcw,hc0] at HT
     simp only [Bool.and_true,Bool.and_false,Bool.or_true,Bool.or_false,Bool.or_self,Bool.and_self] at HT
     go_wp2_with (go_at_call 104;refine (q9 CX _ _ (q9 HNX)).mono ?_;rintro e w1 ⟨hb1,h1⟩;rw [q9 HCL] at h1;subst h1)
     go_roundw
     case rel=>exact ⟨j+1,_,by omega,by go_num,rfl,HT,j6 hbel hb1⟩
     case measure=>simp [intOf];omega
  ·have HT:Hid (R=if fb then none else some pl):=j4 (by rw [q9 hh,dem_end (by rw [List.length_map,q9 HN];omega)])
   clear hh
   cases fb
   ·go_wp2_with fail
    rw [q9 HT]
    exact ⟨rfl,hbel,rfl⟩
   ·go_wp2_with fail
    go_end0
    rw [q9 HT]
    exact ⟨hbel,rfl⟩
end
section
def chkR:CRes→Option Int
 | .err q=>some q
 | .ok c=>if (c != 3&&c != 0)=true then some 0 else none
end
section
def AlikeEnds (w:World) (r:CRes) (e:Ending) (w':World):Prop:=Below w.heap.size w w'∧match r with
 | .ok _=>e=.returned (.tuple #[])
 | .err q=>e=qb4 4 q
theorem vr1 (lo:Nat) (p:Pay) (x y:Ast) (hx:qg8 lo x) (hy:qg8 lo y) (w:World) (v:Value) (h:IsNode lo w v (.bin p x y)) :
  Calls Tryz.prog 149 #[v] w (AlikeEnds w (qm3 p.place (qa4 x) (qa4 y))):=by
 obtain ⟨b,g,v1,v2,rfl,hn,hg1,hg2,e1,e2,n1,n2⟩:=h
 obtain ⟨b1,rfl⟩:=n1.ptr
 obtain ⟨b2,rfl⟩:=n2.ptr
 obtain ⟨hab,hbw,c0,c1,c2,c3,c4,c5,c6⟩:=hn
 obtain ⟨pl,hpl⟩:∃pl,p.place=pl:=⟨_,rfl⟩
 rw [hpl] at c1 ⊢
 have N1:=j4 (n1.kept ((Kept.refl lo w).drew))
 have N2:=j4 n2
 have CX:=j4 hx
 have CY:=j4 hy
 clear c0 c3 c4 c5 c6 n1 n2 hx hy hpl
 cases hxc:qa4 x with
 | err q=>
  have HX:=j4 hxc
  clear hxc
  rw [qm3]
  go_enter Tryz.func149,Tryz.ntmps149
  go_wp2_with fail
  go_region_with (first|(go_at_call_of 104 (Value.pointer (some { block:=b1,off:=0 }));refine (q9 CX _ _ (q9 N1)).mono ?_;rintro e w1 ⟨hb1,h1⟩;rw [q9 HX] at h1;subst h1;refine gone (w:=w1) ⟨rfl,((Below.refl w.heap.size w).drew).trans hb1,rfl⟩ ?_))
  all_goals trivial
 | ok cx=>
  have HX:=j4 hxc
  clear hxc
  cases hyc:qa4 y with
  | err q=>
   have HY:=j4 hyc
   clear hyc
   rw [qm3]
   go_enter Tryz.func149,Tryz.ntmps149
   go_wp2_with fail
   go_region_with (first|(go_at_call_of 104 (Value.pointer (some { block:=b1,off:=0 }));refine (q9 CX _ _ (q9 N1)).mono ?_;rintro e w1 ⟨hb1,h1⟩;rw [q9 HX] at h1;subst h1;have hb1:Below w.heap.size w w1:=((Below.refl w.heap.size w).drew).trans hb1;obtain ⟨hc,hf⟩:=qa9 hb1;have k2:w1.cell? ⟨b,2,none⟩=some (.slice (some ⟨g,0,none⟩) 2 2):=(hc _ 2 hbw).trans c2;have k3:w1.cell? ⟨g,0,none⟩=some (.pointer (some ⟨b1,0,none⟩)):=(hc _ 0 hg2).trans e1;have k4:w1.cell? ⟨g,1,none⟩=some (.pointer (some ⟨b2,0,none⟩)):=(hc _ 1 hg2).trans e2;have z1:=hb1.size;have hb1:=j4 hb1;clear hc hf)|(go_at_call_of 104 (Value.pointer (some { block:=b2,off:=0 }));refine (q9 CY _ _ ((q9 N2).kept (Kept.of_below (q9 hb1)))).mono ?_;rintro e w2 ⟨hb2,h2⟩;rw [q9 HY] at h2;subst h2;refine gone (w:=w2) ⟨rfl,j6 (q9 hb1) hb2,rfl⟩ ?_))
   all_goals trivial
  | ok cy=>
   have HY:=j4 hyc
   clear hyc
   rw [qm3]
   obtain ⟨R,hR⟩:∃r,(if (cx != cy&&cx != 0&&cy != 0)=true then CRes.err pl else CRes.ok 3)=r:=⟨_,rfl⟩
   rw [hR]
   have HR:=j4 hR
   clear hR
   go_enter Tryz.func149,Tryz.ntmps149
   go_wp2_with fail
   go_region_held3 (fun w'=>w'.cell? ⟨b,2,none⟩=some (.slice (some ⟨g,0,none⟩) 2 2)∧w'.cell? ⟨g,0,none⟩=some (.pointer (some ⟨b1,0,none⟩))∧w'.cell? ⟨g,1,none⟩=some (.pointer (some ⟨b2,0,none⟩))) (go_keep) (first|(go_at_call_of 104 (Value.pointer (some { block:=b1,off:=0 }));refine (q9 CX _ _ (q9 N1)).mono ?_;rintro e w1 ⟨hb1,h1⟩;rw [q9 HX] at h1;subst h1;have hb1:Below w.heap.size w w1:=((Below.refl w.heap.size w).drew).trans hb1;obtain ⟨hc,hf⟩:=qa9 hb1;have k2:w1.cell? ⟨b,2,none⟩=some (.slice (some ⟨g,0,none⟩) 2 2):=(hc _ 2 hbw).trans c2;have k3:w1.cell? ⟨g,0,none⟩=some (.pointer (some ⟨b1,0,none⟩)):=(hc _ 0 hg2).trans e1;have k4:w1.cell? ⟨g,1,none⟩=some (.pointer (some ⟨b2,0,none⟩)):=(hc _ 1 hg2).trans e2;have z1:=hb1.size;have hb1:=j4 hb1;clear hc hf)|(go_at_call_of 104 (Value.pointer (some { block:=b2,off:=0 }));refine (q9 CY _ _ ((q9 N2).kept (Kept.of_below (q9 hb1)))).mono ?_;rintro e w2 ⟨hb2,h2⟩;rw [q9 HY] at h2;subst h2;obtain ⟨hc,hf⟩:=qa9 hb2;have j1:w2.cell? ⟨b,1,none⟩=some (.int .i64 pl):=(hc _ 1 (by omega)).trans (((qa9 (q9 hb1)).1 _ 1 hbw).trans c1);have l2:w2.cell? ⟨b,2,none⟩=some (.slice (some ⟨g,0,none⟩) 2 2):=(hc _ 2 (by omega)).trans k2;have l3:w2.cell? ⟨g,0,none⟩=some (.pointer (some ⟨b1,0,none⟩)):=(hc _ 0 (by omega)).trans k3;have l4:w2.cell? ⟨g,1,none⟩=some (.pointer (some ⟨b2,0,none⟩)):=(hc _ 1 (by omega)).trans k4;have hb2:=j4 (j6 (q9 hb1) hb2);clear hc hf))
   clear k2 k3 k4 l2 l3 l4 c1 c2 e1 e2
   cases h1:(cx != cy)<;>cases h2:(cx != 0)<;>cases h3:(cy != 0)
   all_goals
    rw [h1,h2,h3] at HR
    go_wp2_with fail
    rw [←q9 HR]
    first|exact ⟨rfl,q9 hb2,rfl⟩|(go_end0;exact ⟨q9 hb2,rfl⟩)
end
section
theorem qe7 {op pl want c:Int} {rs:List CRes} (h:qh2 op pl rs=qt5 want pl c rs) (hq:dem want pl rs true=none):qh2 op pl rs=.ok c:=by
 rw [h,qt5,hq]
theorem qe8 {op pl want c q:Int} {rs:List CRes} (h:qh2 op pl rs=qt5 want pl c rs) (hq:dem want pl rs true=some q):qh2 op pl rs=.err q:=by
 rw [h,qt5,hq]
theorem class_0 (lo:Nat) (t:Ast) (ho:(qg0 t).op=0):qg8 lo t:=by
 intro w v h
 have hc:qa4 t=.ok 0:=by rw [qd3,ho];rfl
 rw [hc]
 obtain ⟨b,sv,rfl,hnode,_⟩:=h.parts
 have c0:=hnode.c0
 rw [ho] at c0
 clear hnode h hc ho
 go_enter Tryz.func104,Tryz.ntmps104
 go_wp2_with fail
 go_ret
 exact ⟨Below.refl _ _,rfl⟩
theorem class_1 (lo:Nat) (t:Ast) (ho:(qg0 t).op=1):qg8 lo t:=by
 intro w v h
 have hc:qa4 t=.ok 1:=by rw [qd3,ho];rfl
 rw [hc]
 obtain ⟨b,sv,rfl,hnode,_⟩:=h.parts
 have c0:=hnode.c0
 rw [ho] at c0
 clear hnode h hc ho
 go_enter Tryz.func104,Tryz.ntmps104
 go_wp2_with fail
 go_ret
 exact ⟨Below.refl _ _,rfl⟩
theorem class_2 (lo:Nat) (t:Ast) (ho:(qg0 t).op=2):qg8 lo t:=by
 intro w v h
 have hc:qa4 t=.ok 2:=by rw [qd3,ho];rfl
 rw [hc]
 obtain ⟨b,sv,rfl,hnode,_⟩:=h.parts
 have c0:=hnode.c0
 rw [ho] at c0
 clear hnode h hc ho
 go_enter Tryz.func104,Tryz.ntmps104
 go_wp2_with fail
 go_ret
 exact ⟨Below.refl _ _,rfl⟩
theorem class_5 (lo:Nat) (t:Ast) (hcls:∀x∈x9 t,qg8 lo x) (ho:(qg0 t).op=5):qg8 lo t:=by
 intro w v h
 have DEM:=j4 (qe9 lo t hcls 3 w v h)
 obtain ⟨b,sv,rfl,hnode,_⟩:=h.parts
 have c0:=hnode.c0
 rw [ho] at c0
 cases hd:dem 3 (qg0 t).place ((x9 t).map qa4) true with
 | none=>
  have hc:qa4 t=.ok 3:=by rw [qd3,ho];exact qe7 (c:=3) rfl hd
  rw [hc]
  rw [hd] at DEM
  clear hnode h hc ho hd hcls
  go_enter Tryz.func104,Tryz.ntmps104
  go_wp2_with (go_at_call 148;refine (q9 DEM).mono ?_;rintro e w1 ⟨hb1,h1⟩;subst h1)
  go_ret
  exact ⟨hb1,rfl⟩
 | some q=>
  have hc:qa4 t=.err q:=by rw [qd3,ho];exact qe8 (c:=3) rfl hd
  rw [hc]
  rw [hd] at DEM
  clear hnode h hc ho hd hcls
  go_enter Tryz.func104,Tryz.ntmps104
  go_wp2_with (go_at_call 148;refine (q9 DEM).mono ?_;rintro e w1 ⟨hb1,h1⟩;subst h1;simp only [qb4])
  exact ⟨rfl,hb1,rfl⟩
theorem class_6 (lo:Nat) (t:Ast) (hcls:∀x∈x9 t,qg8 lo x) (ho:(qg0 t).op=6):qg8 lo t:=by
 intro w v h
 have DEM:=j4 (qe9 lo t hcls 3 w v h)
 obtain ⟨b,sv,rfl,hnode,_⟩:=h.parts
 have c0:=hnode.c0
 rw [ho] at c0
 cases hd:dem 3 (qg0 t).place ((x9 t).map qa4) true with
 | none=>
  have hc:qa4 t=.ok 3:=by rw [qd3,ho];exact qe7 (c:=3) rfl hd
  rw [hc]
  rw [hd] at DEM
  clear hnode h hc ho hd hcls
  go_enter Tryz.func104,Tryz.ntmps104
  go_wp2_with (go_at_call 148;refine (q9 DEM).mono ?_;rintro e w1 ⟨hb1,h1⟩;subst h1)
  go_ret
  exact ⟨hb1,rfl⟩
 | some q=>
  have hc:qa4 t=.err q:=by rw [qd3,ho];exact qe8 (c:=3) rfl hd
  rw [hc]
  rw [hd] at DEM
  clear hnode h hc ho hd hcls
  go_enter Tryz.func104,Tryz.ntmps104
  go_wp2_with (go_at_call 148;refine (q9 DEM).mono ?_;rintro e w1 ⟨hb1,h1⟩;subst h1;simp only [qb4])
  exact ⟨rfl,hb1,rfl⟩
theorem class_7 (lo:Nat) (t:Ast) (hcls:∀x∈x9 t,qg8 lo x) (ho:(qg0 t).op=7):qg8 lo t:=by
 intro w v h
 have DEM:=j4 (qe9 lo t hcls 3 w v h)
 obtain ⟨b,sv,rfl,hnode,_⟩:=h.parts
 have c0:=hnode.c0
 rw [ho] at c0
 cases hd:dem 3 (qg0 t).place ((x9 t).map qa4) true with
 | none=>
  have hc:qa4 t=.ok 3:=by rw [qd3,ho];exact qe7 (c:=3) rfl hd
  rw [hc]
  rw [hd] at DEM
  clear hnode h hc ho hd hcls
  go_enter Tryz.func104,Tryz.ntmps104
  go_wp2_with (go_at_call 148;refine (q9 DEM).mono ?_;rintro e w1 ⟨hb1,h1⟩;subst h1)
  go_ret
  exact ⟨hb1,rfl⟩
 | some q=>
  have hc:qa4 t=.err q:=by rw [qd3,ho];exact qe8 (c:=3) rfl hd
  rw [hc]
  rw [hd] at DEM
  clear hnode h hc ho hd hcls
  go_enter Tryz.func104,Tryz.ntmps104
  go_wp2_with (go_at_call 148;refine (q9 DEM).mono ?_;rintro e w1 ⟨hb1,h1⟩;subst h1;simp only [qb4])
  exact ⟨rfl,hb1,rfl⟩
theorem class_10 (lo:Nat) (t:Ast) (hcls:∀x∈x9 t,qg8 lo x) (ho:(qg0 t).op=10):qg8 lo t:=by
 intro w v h
 have DEM:=j4 (qe9 lo t hcls 1 w v h)
 obtain ⟨b,sv,rfl,hnode,_⟩:=h.parts
 have c0:=hnode.c0
 rw [ho] at c0
 cases hd:dem 1 (qg0 t).place ((x9 t).map qa4) true with
 | none=>
  have hc:qa4 t=.ok 3:=by rw [qd3,ho];exact qe7 (c:=3) rfl hd
  rw [hc]
  rw [hd] at DEM
  clear hnode h hc ho hd hcls
  go_enter Tryz.func104,Tryz.ntmps104
  go_wp2_with (go_at_call 148;refine (q9 DEM).mono ?_;rintro e w1 ⟨hb1,h1⟩;subst h1)
  go_ret
  exact ⟨hb1,rfl⟩
 | some q=>
  have hc:qa4 t=.err q:=by rw [qd3,ho];exact qe8 (c:=3) rfl hd
  rw [hc]
  rw [hd] at DEM
  clear hnode h hc ho hd hcls
  go_enter Tryz.func104,Tryz.ntmps104
  go_wp2_with (go_at_call 148;refine (q9 DEM).mono ?_;rintro e w1 ⟨hb1,h1⟩;subst h1;simp only [qb4])
  exact ⟨rfl,hb1,rfl⟩
theorem class_11 (lo:Nat) (t:Ast) (hcls:∀x∈x9 t,qg8 lo x) (ho:(qg0 t).op=11):qg8 lo t:=by
 intro w v h
 have DEM:=j4 (qe9 lo t hcls 1 w v h)
 obtain ⟨b,sv,rfl,hnode,_⟩:=h.parts
 have c0:=hnode.c0
 rw [ho] at c0
 cases hd:dem 1 (qg0 t).place ((x9 t).map qa4) true with
 | none=>
  have hc:qa4 t=.ok 3:=by rw [qd3,ho];exact qe7 (c:=3) rfl hd
  rw [hc]
  rw [hd] at DEM
  clear hnode h hc ho hd hcls
  go_enter Tryz.func104,Tryz.ntmps104
  go_wp2_with (go_at_call 148;refine (q9 DEM).mono ?_;rintro e w1 ⟨hb1,h1⟩;subst h1)
  go_ret
  exact ⟨hb1,rfl⟩
 | some q=>
  have hc:qa4 t=.err q:=by rw [qd3,ho];exact qe8 (c:=3) rfl hd
  rw [hc]
  rw [hd] at DEM
  clear hnode h hc ho hd hcls
  go_enter Tryz.func104,Tryz.ntmps104
  go_wp2_with (go_at_call 148;refine (q9 DEM).mono ?_;rintro e w1 ⟨hb1,h1⟩;subst h1;simp only [qb4])
  exact ⟨rfl,hb1,rfl⟩
theorem class_12 (lo:Nat) (t:Ast) (hcls:∀x∈x9 t,qg8 lo x) (ho:(qg0 t).op=12):qg8 lo t:=by
 intro w v h
 have DEM:=j4 (qe9 lo t hcls 1 w v h)
 obtain ⟨b,sv,rfl,hnode,_⟩:=h.parts
 have c0:=hnode.c0
 rw [ho] at c0
 cases hd:dem 1 (qg0 t).place ((x9 t).map qa4) true with
 | none=>
  have hc:qa4 t=.ok 3:=by rw [qd3,ho];exact qe7 (c:=3) rfl hd
  rw [hc]
  rw [hd] at DEM
  clear hnode h hc ho hd hcls
  go_enter Tryz.func104,Tryz.ntmps104
  go_wp2_with (go_at_call 148;refine (q9 DEM).mono ?_;rintro e w1 ⟨hb1,h1⟩;subst h1)
  go_ret
  exact ⟨hb1,rfl⟩
 | some q=>
  have hc:qa4 t=.err q:=by rw [qd3,ho];exact qe8 (c:=3) rfl hd
  rw [hc]
  rw [hd] at DEM
  clear hnode h hc ho hd hcls
  go_enter Tryz.func104,Tryz.ntmps104
  go_wp2_with (go_at_call 148;refine (q9 DEM).mono ?_;rintro e w1 ⟨hb1,h1⟩;subst h1;simp only [qb4])
  exact ⟨rfl,hb1,rfl⟩
theorem class_13 (lo:Nat) (t:Ast) (hcls:∀x∈x9 t,qg8 lo x) (ho:(qg0 t).op=13):qg8 lo t:=by
 intro w v h
 have DEM:=j4 (qe9 lo t hcls 1 w v h)
 obtain ⟨b,sv,rfl,hnode,_⟩:=h.parts
 have c0:=hnode.c0
 rw [ho] at c0
 cases hd:dem 1 (qg0 t).place ((x9 t).map qa4) true with
 | none=>
  have hc:qa4 t=.ok 3:=by rw [qd3,ho];exact qe7 (c:=3) rfl hd
  rw [hc]
  rw [hd] at DEM
  clear hnode h hc ho hd hcls
  go_enter Tryz.func104,Tryz.ntmps104
  go_wp2_with (go_at_call 148;refine (q9 DEM).mono ?_;rintro e w1 ⟨hb1,h1⟩;subst h1)
  go_ret
  exact ⟨hb1,rfl⟩
 | some q=>
  have hc:qa4 t=.err q:=by rw [qd3,ho];exact qe8 (c:=3) rfl hd
  rw [hc]
  rw [hd] at DEM
  clear hnode h hc ho hd hcls
  go_enter Tryz.func104,Tryz.ntmps104
  go_wp2_with (go_at_call 148;refine (q9 DEM).mono ?_;rintro e w1 ⟨hb1,h1⟩;subst h1;simp only [qb4])
  exact ⟨rfl,hb1,rfl⟩
theorem class_20 (lo:Nat) (t:Ast) (hcls:∀x∈x9 t,qg8 lo x) (ho:(qg0 t).op=20):qg8 lo t:=by
 intro w v h
 have DEM:=j4 (qe9 lo t hcls 1 w v h)
 obtain ⟨b,sv,rfl,hnode,_⟩:=h.parts
 have c0:=hnode.c0
 rw [ho] at c0
 cases hd:dem 1 (qg0 t).place ((x9 t).map qa4) true with
 | none=>
  have hc:qa4 t=.ok 3:=by rw [qd3,ho];exact qe7 (c:=3) rfl hd
  rw [hc]
  rw [hd] at DEM
  clear hnode h hc ho hd hcls
  go_enter Tryz.func104,Tryz.ntmps104
  go_wp2_with (go_at_call 148;refine (q9 DEM).mono ?_;rintro e w1 ⟨hb1,h1⟩;subst h1)
  go_ret
  exact ⟨hb1,rfl⟩
 | some q=>
  have hc:qa4 t=.err q:=by rw [qd3,ho];exact qe8 (c:=3) rfl hd
  rw [hc]
  rw [hd] at DEM
  clear hnode h hc ho hd hcls
  go_enter Tryz.func104,Tryz.ntmps104
  go_wp2_with (go_at_call 148;refine (q9 DEM).mono ?_;rintro e w1 ⟨hb1,h1⟩;subst h1;simp only [qb4])
  exact ⟨rfl,hb1,rfl⟩
theorem class_14 (lo:Nat) (t:Ast) (hcls:∀x∈x9 t,qg8 lo x) (ho:(qg0 t).op=14):qg8 lo t:=by
 intro w v h
 have DEM:=j4 (qe9 lo t hcls 1 w v h)
 obtain ⟨b,sv,rfl,hnode,_⟩:=h.parts
 have c0:=hnode.c0
 rw [ho] at c0
 cases hd:dem 1 (qg0 t).place ((x9 t).map qa4) true with
 | none=>
  have hc:qa4 t=.ok 1:=by rw [qd3,ho];exact qe7 (c:=1) rfl hd
  rw [hc]
  rw [hd] at DEM
  clear hnode h hc ho hd hcls
  go_enter Tryz.func104,Tryz.ntmps104
  go_wp2_with (go_at_call 148;refine (q9 DEM).mono ?_;rintro e w1 ⟨hb1,h1⟩;subst h1)
  go_ret
  exact ⟨hb1,rfl⟩
 | some q=>
  have hc:qa4 t=.err q:=by rw [qd3,ho];exact qe8 (c:=1) rfl hd
  rw [hc]
  rw [hd] at DEM
  clear hnode h hc ho hd hcls
  go_enter Tryz.func104,Tryz.ntmps104
  go_wp2_with (go_at_call 148;refine (q9 DEM).mono ?_;rintro e w1 ⟨hb1,h1⟩;subst h1;simp only [qb4])
  exact ⟨rfl,hb1,rfl⟩
theorem class_15 (lo:Nat) (t:Ast) (hcls:∀x∈x9 t,qg8 lo x) (ho:(qg0 t).op=15):qg8 lo t:=by
 intro w v h
 have DEM:=j4 (qe9 lo t hcls 1 w v h)
 obtain ⟨b,sv,rfl,hnode,_⟩:=h.parts
 have c0:=hnode.c0
 rw [ho] at c0
 cases hd:dem 1 (qg0 t).place ((x9 t).map qa4) true with
 | none=>
  have hc:qa4 t=.ok 1:=by rw [qd3,ho];exact qe7 (c:=1) rfl hd
  rw [hc]
  rw [hd] at DEM
  clear hnode h hc ho hd hcls
  go_enter Tryz.func104,Tryz.ntmps104
  go_wp2_with (go_at_call 148;refine (q9 DEM).mono ?_;rintro e w1 ⟨hb1,h1⟩;subst h1)
  go_ret
  exact ⟨hb1,rfl⟩
 | some q=>
  have hc:qa4 t=.err q:=by rw [qd3,ho];exact qe8 (c:=1) rfl hd
  rw [hc]
  rw [hd] at DEM
  clear hnode h hc ho hd hcls
  go_enter Tryz.func104,Tryz.ntmps104
  go_wp2_with (go_at_call 148;refine (q9 DEM).mono ?_;rintro e w1 ⟨hb1,h1⟩;subst h1;simp only [qb4])
  exact ⟨rfl,hb1,rfl⟩
theorem class_16 (lo:Nat) (t:Ast) (hcls:∀x∈x9 t,qg8 lo x) (ho:(qg0 t).op=16):qg8 lo t:=by
 intro w v h
 have DEM:=j4 (qe9 lo t hcls 1 w v h)
 obtain ⟨b,sv,rfl,hnode,_⟩:=h.parts
 have c0:=hnode.c0
 rw [ho] at c0
 cases hd:dem 1 (qg0 t).place ((x9 t).map qa4) true with
 | none=>
  have hc:qa4 t=.ok 1:=by rw [qd3,ho];exact qe7 (c:=1) rfl hd
  rw [hc]
  rw [hd] at DEM
  clear hnode h hc ho hd hcls
  go_enter Tryz.func104,Tryz.ntmps104
  go_wp2_with (go_at_call 148;refine (q9 DEM).mono ?_;rintro e w1 ⟨hb1,h1⟩;subst h1)
  go_ret
  exact ⟨hb1,rfl⟩
 | some q=>
  have hc:qa4 t=.err q:=by rw [qd3,ho];exact qe8 (c:=1) rfl hd
  rw [hc]
  rw [hd] at DEM
  clear hnode h hc ho hd hcls
  go_enter Tryz.func104,Tryz.ntmps104
  go_wp2_with (go_at_call 148;refine (q9 DEM).mono ?_;rintro e w1 ⟨hb1,h1⟩;subst h1;simp only [qb4])
  exact ⟨rfl,hb1,rfl⟩
theorem class_17 (lo:Nat) (t:Ast) (hcls:∀x∈x9 t,qg8 lo x) (ho:(qg0 t).op=17):qg8 lo t:=by
 intro w v h
 have DEM:=j4 (qe9 lo t hcls 1 w v h)
 obtain ⟨b,sv,rfl,hnode,_⟩:=h.parts
 have c0:=hnode.c0
 rw [ho] at c0
 cases hd:dem 1 (qg0 t).place ((x9 t).map qa4) true with
 | none=>
  have hc:qa4 t=.ok 1:=by rw [qd3,ho];exact qe7 (c:=1) rfl hd
  rw [hc]
  rw [hd] at DEM
  clear hnode h hc ho hd hcls
  go_enter Tryz.func104,Tryz.ntmps104
  go_wp2_with (go_at_call 148;refine (q9 DEM).mono ?_;rintro e w1 ⟨hb1,h1⟩;subst h1)
  go_ret
  exact ⟨hb1,rfl⟩
 | some q=>
  have hc:qa4 t=.err q:=by rw [qd3,ho];exact qe8 (c:=1) rfl hd
  rw [hc]
  rw [hd] at DEM
  clear hnode h hc ho hd hcls
  go_enter Tryz.func104,Tryz.ntmps104
  go_wp2_with (go_at_call 148;refine (q9 DEM).mono ?_;rintro e w1 ⟨hb1,h1⟩;subst h1;simp only [qb4])
  exact ⟨rfl,hb1,rfl⟩
theorem class_18 (lo:Nat) (t:Ast) (hcls:∀x∈x9 t,qg8 lo x) (ho:(qg0 t).op=18):qg8 lo t:=by
 intro w v h
 have DEM:=j4 (qe9 lo t hcls 1 w v h)
 obtain ⟨b,sv,rfl,hnode,_⟩:=h.parts
 have c0:=hnode.c0
 rw [ho] at c0
 cases hd:dem 1 (qg0 t).place ((x9 t).map qa4) true with
 | none=>
  have hc:qa4 t=.ok 1:=by rw [qd3,ho];exact qe7 (c:=1) rfl hd
  rw [hc]
  rw [hd] at DEM
  clear hnode h hc ho hd hcls
  go_enter Tryz.func104,Tryz.ntmps104
  go_wp2_with (go_at_call 148;refine (q9 DEM).mono ?_;rintro e w1 ⟨hb1,h1⟩;subst h1)
  go_ret
  exact ⟨hb1,rfl⟩
 | some q=>
  have hc:qa4 t=.err q:=by rw [qd3,ho];exact qe8 (c:=1) rfl hd
  rw [hc]
  rw [hd] at DEM
  clear hnode h hc ho hd hcls
  go_enter Tryz.func104,Tryz.ntmps104
  go_wp2_with (go_at_call 148;refine (q9 DEM).mono ?_;rintro e w1 ⟨hb1,h1⟩;subst h1;simp only [qb4])
  exact ⟨rfl,hb1,rfl⟩
theorem class_19 (lo:Nat) (t:Ast) (hcls:∀x∈x9 t,qg8 lo x) (ho:(qg0 t).op=19):qg8 lo t:=by
 intro w v h
 have DEM:=j4 (qe9 lo t hcls 1 w v h)
 obtain ⟨b,sv,rfl,hnode,_⟩:=h.parts
 have c0:=hnode.c0
 rw [ho] at c0
 cases hd:dem 1 (qg0 t).place ((x9 t).map qa4) true with
 | none=>
  have hc:qa4 t=.ok 1:=by rw [qd3,ho];exact qe7 (c:=1) rfl hd
  rw [hc]
  rw [hd] at DEM
  clear hnode h hc ho hd hcls
  go_enter Tryz.func104,Tryz.ntmps104
  go_wp2_with (go_at_call 148;refine (q9 DEM).mono ?_;rintro e w1 ⟨hb1,h1⟩;subst h1)
  go_ret
  exact ⟨hb1,rfl⟩
 | some q=>
  have hc:qa4 t=.err q:=by rw [qd3,ho];exact qe8 (c:=1) rfl hd
  rw [hc]
  rw [hd] at DEM
  clear hnode h hc ho hd hcls
  go_enter Tryz.func104,Tryz.ntmps104
  go_wp2_with (go_at_call 148;refine (q9 DEM).mono ?_;rintro e w1 ⟨hb1,h1⟩;subst h1;simp only [qb4])
  exact ⟨rfl,hb1,rfl⟩
theorem class_8 (lo:Nat) (p:Pay) (x y:Ast) (hx:qg8 lo x) (hy:qg8 lo y) (ho:p.op=8):qg8 lo (.bin p x y):=by
 intro w v h
 have ALI:=j4 (vr1 lo p x y hx hy w v h)
 obtain ⟨b,sv,rfl,hnode,_⟩:=h.parts
 have c0:w.cell? ⟨b,0,none⟩=some (.int .i64 p.op):=hnode.c0
 rw [ho] at c0
 have hc:qa4 (.bin p x y)=qm3 p.place (qa4 x) (qa4 y):=by rw [qa4,ho];rfl
 rw [hc]
 have h3:∀c,qm3 p.place (qa4 x) (qa4 y)=.ok c→c=3:=by
  intro c h
  unfold qm3 at h
  split at h
  ·cases h
  ·cases h
  ·split at h
   ·cases h
   ·injection h with h;exact h.symm
 obtain ⟨r,hr⟩:∃r,qm3 p.place (qa4 x) (qa4 y)=r:=⟨_,rfl⟩
 rw [hr] at ALI h3 ⊢
 clear hnode h hc ho hr hx hy
 cases r with
 | ok c=>
  obtain rfl:=h3 c rfl
  clear h3
  go_enter Tryz.func104,Tryz.ntmps104
  go_wp2_with (go_at_call 149;refine (q9 ALI).mono ?_;rintro e w1 ⟨hb1,h1⟩;subst h1)
  go_ret
  exact ⟨hb1,rfl⟩
 | err q=>
  clear h3
  go_enter Tryz.func104,Tryz.ntmps104
  go_wp2_with (go_at_call 149;refine (q9 ALI).mono ?_;rintro e w1 ⟨hb1,h1⟩;subst h1;simp only [qb4])
  exact ⟨rfl,hb1,rfl⟩
theorem class_9 (lo:Nat) (p:Pay) (x y:Ast) (hx:qg8 lo x) (hy:qg8 lo y) (ho:p.op=9):qg8 lo (.bin p x y):=by
 intro w v h
 have ALI:=j4 (vr1 lo p x y hx hy w v h)
 obtain ⟨b,sv,rfl,hnode,_⟩:=h.parts
 have c0:w.cell? ⟨b,0,none⟩=some (.int .i64 p.op):=hnode.c0
 rw [ho] at c0
 have hc:qa4 (.bin p x y)=qm3 p.place (qa4 x) (qa4 y):=by rw [qa4,ho];rfl
 rw [hc]
 have h3:∀c,qm3 p.place (qa4 x) (qa4 y)=.ok c→c=3:=by
  intro c h
  unfold qm3 at h
  split at h
  ·cases h
  ·cases h
  ·split at h
   ·cases h
   ·injection h with h;exact h.symm
 obtain ⟨r,hr⟩:∃r,qm3 p.place (qa4 x) (qa4 y)=r:=⟨_,rfl⟩
 rw [hr] at ALI h3 ⊢
 clear hnode h hc ho hr hx hy
 cases r with
 | ok c=>
  obtain rfl:=h3 c rfl
  clear h3
  go_enter Tryz.func104,Tryz.ntmps104
  go_wp2_with (go_at_call 149;refine (q9 ALI).mono ?_;rintro e w1 ⟨hb1,h1⟩;subst h1)
  go_ret
  exact ⟨hb1,rfl⟩
 | err q=>
  clear h3
  go_enter Tryz.func104,Tryz.ntmps104
  go_wp2_with (go_at_call 149;refine (q9 ALI).mono ?_;rintro e w1 ⟨hb1,h1⟩;subst h1;simp only [qb4])
  exact ⟨rfl,hb1,rfl⟩
theorem jg9 (lo:Nat) (t:Ast) (h0:¬(qg0 t).op=0) (h1:¬(qg0 t).op=1) (h2:¬(qg0 t).op=2) (h5:¬(qg0 t).op=5) (h6:¬(qg0 t).op=6) (h7:¬(qg0 t).op=7) (h10:¬(qg0 t).op=10) (h11:¬(qg0 t).op=11) (h12:¬(qg0 t).op=12) (h13:¬(qg0 t).op=13) (h20:¬(qg0 t).op=20) (h14:¬(qg0 t).op=14) (h15:¬(qg0 t).op=15) (h16:¬(qg0 t).op=16) (h17:¬(qg0 t).op=17) (h18:¬(qg0 t).op=18) (h19:¬(qg0 t).op=19) (h8:¬(qg0 t).op=8) (h9:¬(qg0 t).op=9):qg8 lo t:=by
 intro w v h
 have e0:((qg0 t).op==0)=false:=beq_eq_false_iff_ne.2 h0
 have e1:((qg0 t).op==1)=false:=beq_eq_false_iff_ne.2 h1
 have e2:((qg0 t).op==2)=false:=beq_eq_false_iff_ne.2 h2
 have e5:((qg0 t).op==5)=false:=beq_eq_false_iff_ne.2 h5
 have e6:((qg0 t).op==6)=false:=beq_eq_false_iff_ne.2 h6
 have e7:((qg0 t).op==7)=false:=beq_eq_false_iff_ne.2 h7
 have e10:((qg0 t).op==10)=false:=beq_eq_false_iff_ne.2 h10
 have e11:((qg0 t).op==11)=false:=beq_eq_false_iff_ne.2 h11
 have e12:((qg0 t).op==12)=false:=beq_eq_false_iff_ne.2 h12
 have e13:((qg0 t).op==13)=false:=beq_eq_false_iff_ne.2 h13
 have e20:((qg0 t).op==20)=false:=beq_eq_false_iff_ne.2 h20
 have e14:((qg0 t).op==14)=false:=beq_eq_false_iff_ne.2 h14
 have e15:((qg0 t).op==15)=false:=beq_eq_false_iff_ne.2 h15
 have e16:((qg0 t).op==16)=false:=beq_eq_false_iff_ne.2 h16
 have e17:((qg0 t).op==17)=false:=beq_eq_false_iff_ne.2 h17
 have e18:((qg0 t).op==18)=false:=beq_eq_false_iff_ne.2 h18
 have e19:((qg0 t).op==19)=false:=beq_eq_false_iff_ne.2 h19
 have e8:((qg0 t).op==8)=false:=beq_eq_false_iff_ne.2 h8
 have e9:((qg0 t).op==9)=false:=beq_eq_false_iff_ne.2 h9
 have hc:qa4 t=.ok 3:=by rw [qd3];simp only [qh2,e0,e1,e2,e5,e6,e7,e10,e11,e12,e13,e20,e14,e15,e16,e17,e18,e19,e8,e9,Bool.or_self,Bool.false_eq_true,if_false]
 rw [hc]
 obtain ⟨b,sv,rfl,hnode,_⟩:=h.parts
 have c0:=hnode.c0
 clear hnode h hc h0 h1 h2 h5 h6 h7 h10 h11 h12 h13 h20 h14 h15 h16 h17 h18 h19 h8 h9
 go_enter Tryz.func104,Tryz.ntmps104
 go_wp2_with fail
 go_ret
 exact ⟨Below.refl _ _,rfl⟩
theorem qv6 (lo:Nat) (t:Ast) (hwf:WfA t) (hcls:∀x∈x9 t,qg8 lo x):qg8 lo t:=by
 by_cases h0:(qg0 t).op=0
 ·exact class_0 lo t h0
 by_cases h1:(qg0 t).op=1
 ·exact class_1 lo t h1
 by_cases h2:(qg0 t).op=2
 ·exact class_2 lo t h2
 by_cases h5:(qg0 t).op=5
 ·exact class_5 lo t hcls h5
 by_cases h6:(qg0 t).op=6
 ·exact class_6 lo t hcls h6
 by_cases h7:(qg0 t).op=7
 ·exact class_7 lo t hcls h7
 by_cases h10:(qg0 t).op=10
 ·exact class_10 lo t hcls h10
 by_cases h11:(qg0 t).op=11
 ·exact class_11 lo t hcls h11
 by_cases h12:(qg0 t).op=12
 ·exact class_12 lo t hcls h12
 by_cases h13:(qg0 t).op=13
 ·exact class_13 lo t hcls h13
 by_cases h20:(qg0 t).op=20
 ·exact class_20 lo t hcls h20
 by_cases h14:(qg0 t).op=14
 ·exact class_14 lo t hcls h14
 by_cases h15:(qg0 t).op=15
 ·exact class_15 lo t hcls h15
 by_cases h16:(qg0 t).op=16
 ·exact class_16 lo t hcls h16
 by_cases h17:(qg0 t).op=17
 ·exact class_17 lo t hcls h17
 by_cases h18:(qg0 t).op=18
 ·exact class_18 lo t hcls h18
 by_cases h19:(qg0 t).op=19
 ·exact class_19 lo t hcls h19
 by_cases h8:(qg0 t).op=8
 ·cases t with
  | leaf p=>exact absurd h8 hwf.1
  | un p x=>exact absurd h8 hwf.1.1
  | bin p x y=>exact class_8 lo p x y (hcls x (by simp [x9])) (hcls y (by simp [x9])) h8
  | tri p x y z=>exact absurd h8 hwf.1.1
 by_cases h9:(qg0 t).op=9
 ·cases t with
  | leaf p=>exact absurd h9 hwf.2
  | un p x=>exact absurd h9 hwf.1.2
  | bin p x y=>exact class_9 lo p x y (hcls x (by simp [x9])) (hcls y (by simp [x9])) h9
  | tri p x y z=>exact absurd h9 hwf.1.2
 exact jg9 lo t h0 h1 h2 h5 h6 h7 h10 h11 h12 h13 h20 h14 h15 h16 h17 h18 h19 h8 h9
theorem class_all (lo:Nat):∀t,WfA t→qg8 lo t:=by
 intro t
 induction t with
 | leaf p=>intro h;exact qv6 lo _ h (fun x hx=>by simp [x9] at hx)
 | un p x ih=>intro h;exact qv6 lo _ h (fun y hy=>by simp [x9] at hy;subst hy;exact ih h.2)
 | bin p x y ihx ihy=>intro h;exact qv6 lo _ h (fun z hz=>by simp [x9] at hz;rcases hz with rfl|rfl;exact ihx h.1;exact ihy h.2)
 | tri p x y z ihx ihy ihz=>intro h;exact qv6 lo _ h (fun u hu=>by simp [x9] at hu;rcases hu with rfl|rfl|rfl;exact ihx h.2.1;exact ihy h.2.2.1;exact ihz h.2.2.2)
theorem check_any (lo:Nat) (t:Ast) (hwf:WfA t) (w:World) (v:Value) (h:IsNode lo w v t) :
  Calls Tryz.prog 57 #[v] w (DemEnds w (chkR (qa4 t))):=by
 have CLS:=j4 (class_all lo t hwf w v h)
 obtain ⟨b,rfl⟩:=h.ptr
 clear h hwf
 cases hc:qa4 t with
 | err q=>
  rw [hc] at CLS
  clear hc
  go_enter Tryz.func57,Tryz.ntmps57
  go_wp2_with (go_at_call 104;refine (q9 CLS).mono ?_;rintro e w1 ⟨hb1,h1⟩;subst h1;simp only [qb4])
  exact ⟨rfl,hb1,rfl⟩
 | ok c=>
  rw [hc] at CLS
  clear hc
  cases h1:(c != 3)<;>cases h2:(c != 0)
  all_goals
   rw [chkR,h1,h2]
   simp only [Bool.and_true,Bool.and_false,Bool.and_self,Bool.false_eq_true,if_false,if_true]
   go_enter Tryz.func57,Tryz.ntmps57
   go_wp2_with (go_at_call 104;refine (q9 CLS).mono ?_;rintro e w1 ⟨hb1,h1⟩;subst h1)
   first|exact ⟨rfl,hb1,rfl⟩|(go_end0;exact ⟨hb1,rfl⟩)
end
section
theorem rng0:Rng 0:=⟨by decide,by decide⟩
end
section
theorem EvAt.take {w:World} {b off:Nat} {ps:List Pr} (h:EvAt w b off ps) (k:Nat):EvAt w b off (ps.take k):=by
 intro j p hj
 rw [List.getElem?_take] at hj
 split at hj
 ·exact h j p hj
 ·cases hj
def Short (ps:List Pr):Prop:=∀p∈ps,p.name.length≤140737488355328∧p.val.str.length≤140737488355328
theorem EvAt.later {w W w1 w2:World} {b off:Nat} {ps:List Pr} {o:Obj} (h:EvAt w b off ps) (hW:W=(w.alloc o).drew) (hlt:b<w.heap.size) (hb1:Below W.heap.size W w1) (hb2:Below w1.heap.size w1 w2):EvAt w2 b off ps:=by
 subst hW
 have h1:EvAt (w.alloc o).drew b off ps:=h.below ((Below.refl _ _).alloc (Nat.le_refl _) o).drew hlt
 have hlt1:b<(w.alloc o).drew.heap.size:=by show b<(w.alloc o).heap.size;simp;omega
 exact (h1.below hb1 hlt1).below hb2 (Nat.lt_of_lt_of_le hlt1 hb1.size)
end
end Go.Proofs.YtfkcaldjphakpaaGreatDoor
