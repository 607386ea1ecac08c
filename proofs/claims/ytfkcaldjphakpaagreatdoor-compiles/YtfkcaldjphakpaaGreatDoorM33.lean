/- strconv.ErrRange lies where the rows say. -/
import Derived.Test.YtfkcaldjphakpaaGreatDoorRows
import Derived.LaidLaws
import Derived.Lib.LaidU8
import Derived.MakeChecks
import Derived.Test.YtfkcaldjphakpaaGreatDoorM03
import Derived.Test.YtfkcaldjphakpaaGreatDoorM07
import Derived.Deep.DeepCutAuto
import Derived.RangeFuncBox
import Derived.RangeFuncLeaves
import Derived.Shelf.Abstract
import Derived.OwnWalkIn
import Derived.TacticsInMore
import Derived.LoopNIn
import Derived.LoopIn
import Derived.Maps.AppendAt
set_option maxHeartbeats 16000000
set_option maxRecDepth 100000
namespace Go.Proofs.YtfkcaldjphakpaaGreatDoor
open Go.RowKit Go.Proofs.Tryz
section
theorem jr0 : prog.globalNamed "strconv.ErrRange" = some 3 := by kernel_rfl
theorem jb6:(prog.globals[3]?).map (·.type)=some 280:=by kernel_rfl
theorem err_of {W : World} {l : List (String × DataW Unit)} (hm : ("strconv.ErrRange", Rows.laid_strconv_ErrRange) ∈ l) (h : laidMet prog l W) : ErrOk W := by
 obtain⟨g,t,cs,fuel,p,h1,h2,h3,h4⟩:=Lib.laidMet.reads h hm;obtain rfl:3=g:=Option.some.inj (jr0.symm.trans h1);obtain rfl:280=t:=Option.some.inj (jb6.symm.trans h2);obtain⟨f1,u,v,O5,_,_⟩:=iface_of_trod underlying280 h4;unfold World.var? at h3;rw[jr0]at h3;simp only[Option.bind_some]at h3
 split at h3
 ·rename_i c ty fz hh
  injection h3 with h3;subst h3;refine⟨(Array.getElem?_eq_some_iff.1 hh).1,.iface u v, ?_,.inr ⟨u,v,rfl⟩⟩
  have h0:c[0]?=some (.iface u v):=by
   rw[←Array.getElem?_toList,O5];rfl
  rw[World.cell?];simp[hh,h0]
 ·cases h3
end
section
def qj1:Ast->Pay
 | .leaf p=>p
 | .un p _=>p
 | .bin p _ _=>p
 | .tri p _ _ _=>p
def qb8:Ast->List Ast
 | .leaf _=>[]
 | .un _ x=>[x]
 | .bin _ x y=>[x,y]
 | .tri _ x y z=>[x,y,z]
def SidesAt(lo:Nat)(w:World)(sv:Value)(ts:List Ast):Prop:=
 (ts=[]/\sv=.slice none 0 0)\/∃g,sv=.slice (some ⟨g,0,none⟩) ts.length ts.length/\lo<g/\g<w.heap.size/\∀(j:Nat) (x:Ast),ts[j]?=some x->∃b,w.cell? ⟨g,j,none⟩=some (.pointer (some ⟨b,0,none⟩))/\IsNode lo w (.pointer (some ⟨b,0,none⟩)) x
theorem IsNode.parts{lo:Nat}{w:World}{v:Value}{t:Ast}(h:IsNode lo w v t):∃b sv,v=.pointer (some ⟨b,0,none⟩)/\NodeAt lo w b (qj1 t) sv/\SidesAt lo w sv (qb8 t):=by
 cases t with
 | leaf p=>obtain⟨b,rfl,h⟩:=h;exact⟨b,_,rfl,h,.inl ⟨rfl,rfl⟩⟩
 | un p x=>
  obtain⟨b,g,v1,rfl,h,h1,h2,e1,n1⟩:=h;refine⟨b,_,rfl,h,.inr ⟨g,rfl,h1,h2,λj y hj=>?_⟩⟩
  match j,hj with
  | 0,hj=>
   obtain rfl:x=y:=by simpa [qb8]using hj
   obtain⟨b1,rfl⟩:=n1.ptr;exact⟨b1,e1,n1⟩
  | j+1,hj=>simp[qb8]at hj
 | bin p x y=>
  obtain⟨b,g,v1,v2,rfl,h,h1,h2,e1,e2,n1,n2⟩:=h;refine⟨b,_,rfl,h,.inr ⟨g,rfl,h1,h2,λj z hj=>?_⟩⟩
  match j,hj with
  | 0,hj=>
   obtain rfl:x=z:=by simpa [qb8]using hj
   obtain⟨b1,rfl⟩:=n1.ptr;exact⟨b1,e1,n1⟩
  | 1,hj=>
   obtain rfl:y=z:=by simpa [qb8]using hj
   obtain⟨b1,rfl⟩:=n2.ptr;exact⟨b1,e2,n2⟩
  | j+2,hj=>simp[qb8]at hj
 | tri p x y z=>
  obtain⟨b,g,v1,v2,v3,rfl,h,h1,h2,e1,e2,e3,n1,n2,n3⟩:=h;refine⟨b,_,rfl,h,.inr ⟨g,rfl,h1,h2,λj u hj=>?_⟩⟩
  match j,hj with
  | 0,hj=>
   obtain rfl:x=u:=by simpa [qb8]using hj
   obtain⟨b1,rfl⟩:=n1.ptr;exact⟨b1,e1,n1⟩
  | 1,hj=>
   obtain rfl:y=u:=by simpa [qb8]using hj
   obtain⟨b1,rfl⟩:=n2.ptr;exact⟨b1,e2,n2⟩
  | 2,hj=>
   obtain rfl:z=u:=by simpa [qb8]using hj
   obtain⟨b1,rfl⟩:=n3.ptr;exact⟨b1,e3,n3⟩
  | j+3,hj=>simp[qb8]at hj
theorem SidesAt.any{lo:Nat}{w:World}{sv:Value}{ts:List Ast}(h:SidesAt lo w sv ts):∃a,sv=.slice a ts.length ts.length/\∀(j:Nat) (x:Ast),ts[j]?=some x->∃g b,a=some ⟨g,0,none⟩/\lo<g/\g<w.heap.size/\w.cell? ⟨g,j,none⟩=some (.pointer (some ⟨b,0,none⟩))/\IsNode lo w (.pointer (some ⟨b,0,none⟩)) x:=by
 rcases h with⟨rfl,rfl⟩|⟨g,rfl,h1,h2,h3⟩
 ·exact⟨none,rfl,λj x hj=>by simp at hj⟩
 ·exact⟨some ⟨g,0,none⟩,rfl,λj x hj=>by obtain⟨b,hc,hn⟩:=h3 j x hj;exact⟨g,b,rfl,h1,h2,hc,hn⟩⟩
theorem jf4(t:Ast):(qb8 t).length<=3:=by cases t<;>simp[qb8]
inductive CRes where
 | ok (c:Int)
 | err (pl:Int)
def dem(want pl:Int):List CRes->Bool->Option Int
 | [],fit=>if fit then none else some pl
 | .err q::_,_=>some q
 | .ok c::t,fit=>dem want pl t (fit&&(c==want||c==0))
def qt7(want pl c:Int)(rs:List CRes):CRes:=match dem want pl rs true with
 | none=>.ok c
 | some q=>.err q
def qq1(pl:Int):CRes->CRes->CRes
 | .err q,_=>.err q
 | .ok _,.err q=>.err q
 | .ok l,.ok r=>if(l != r&&l != 0&&r != 0)=true then .err pl else .ok 3
def qg1(op pl:Int)(rs:List CRes):CRes:=
 if op==0 then .ok 0 else if op==1 then .ok 1 else if op==2 then .ok 2
 else if op==5||op==6||op==7 then qt7 3 pl 3 rs
 else if op==10||op==11||op==12||op==13||op==20 then qt7 1 pl 3 rs
 else if op==14||op==15||op==16||op==17||op==18||op==19 then qt7 1 pl 1 rs
 else if op==8||op==9 then(match rs with
  | [a,b]=>qq1 pl a b
  | _=>.ok 3)
 else .ok 3
def qb3:Ast->CRes
 | .leaf p=>qg1 p.op p.place []
 | .un p x=>qg1 p.op p.place [qb3 x]
 | .bin p x y=>qg1 p.op p.place [qb3 x,qb3 y]
 | .tri p x y z=>qg1 p.op p.place [qb3 x,qb3 y,qb3 z]
theorem vu1(t:Ast):qb3 t=qg1 (qj1 t).op (qj1 t).place ((qb8 t).map qb3):=by cases t<;>rfl
def WfA:Ast->Prop
 | .leaf p=>¬p.op=8/\¬p.op=9
 | .un p x=>(¬p.op=8/\¬p.op=9)/\WfA x
 | .bin _ x y=>WfA x/\WfA y
 | .tri p x y z=>(¬p.op=8/\¬p.op=9)/\WfA x/\WfA y/\WfA z
theorem WfA.side{t x:Ast}(h:WfA t)(hx:x∈qb8 t):WfA x:=by
 cases t with
 | leaf p=>simp[qb8]at hx
 | un p y=>simp[qb8]at hx;subst hx;exact h.2
 | bin p y z=>simp[qb8]at hx;rcases hx with rfl|rfl;exact h.1;exact h.2
 | tri p y z u=>simp[qb8]at hx;rcases hx with rfl|rfl|rfl;exact h.2.1;exact h.2.2.1;exact h.2.2.2
def ClsEnds(w:World)(r:CRes)(e:Ending)(w':World):Prop:=
 Below w.heap.size w w'/\match r with
 | .ok c=>e=.returned (.int .i64 c)
 | .err pl=>e=qd2 4 pl
def ve5(lo:Nat)(t:Ast):Prop:=∀(w:World) (v:Value),IsNode lo w v t->Calls prog 104 #[v] w (ClsEnds w (qb3 t))
theorem dem_err{want pl q:Int}{rs:List CRes}{j:Nat}{fit:Bool}(h:rs[j]?=some (.err q)):dem want pl (rs.drop j) fit=some q:=by
 obtain⟨hj,he⟩:=List.getElem?_eq_some_iff.1 h;rw[List.drop_eq_getElem_cons hj,he];rfl
theorem dem_ok{want pl c:Int}{rs:List CRes}{j:Nat}{fit:Bool}(h:rs[j]?=some (.ok c)):dem want pl (rs.drop j) fit=dem want pl (rs.drop (j+1)) (fit&&(c==want||c==0)):=by
 obtain⟨hj,he⟩:=List.getElem?_eq_some_iff.1 h;rw[List.drop_eq_getElem_cons hj,he];rfl
theorem dem_end{want pl:Int}{rs:List CRes}{j:Nat}{fit:Bool}(h:rs.length<=j):dem want pl (rs.drop j) fit=if fit then none else some pl:=by
 rw[List.drop_of_length_le h];rfl
end
section
def DemEnds(w:World)(r:Option Int)(e:Ending)(w':World):Prop:=Below w.heap.size w w'/\match r with
 | none=>e=.returned (.tuple #[])
 | some q=>e=qd2 4 q
theorem jv1(lo:Nat)(t:Ast)(U7:∀x∈qb8 t,ve5 lo x)(want:Int)(w:World)(v:Value)(h:IsNode lo w v t):
  Calls prog 148 #[v,.int .i64 want] w (DemEnds w (dem want (qj1 t).place ((qb8 t).map qb3) true)):=by
 obtain⟨R,hR⟩:∃r,dem want (qj1 t).place ((qb8 t).map qb3) true=r:=⟨_,rfl⟩;rw[hR];have HR:=j3 hR;obtain⟨b,sv,rfl,G6,X9⟩:=h.parts;obtain⟨a,rfl,bA⟩:=X9.any;have bW:=jf4 t;obtain⟨aV,K9,c0,c1,c2,c3,c4,c5,c6⟩:=G6;obtain⟨n,hn⟩:∃n,(qb8 t).length=n:=⟨_,rfl⟩;rw[hn]at c2 bW;have HN:=j3 hn;have HS:=j3 bA;have HC:=j3 U7;obtain⟨pl,T8⟩:∃pl,(qj1 t).place=pl:=⟨_,rfl⟩;rw[T8]at c1 HR;clear hR X9 h c0 c3 c4 c5 c6 hn bA U7 T8;go_enter func148,ntmps148
 go_wp2_with fail
 go_loopw [4,13] (λfit i wr=>∃(j:Nat) (fb:Bool),j<=n/\i=.int .i64 j/\fit=.bool fb/\Hid (R=dem want pl (((qb8 t).map qb3).drop j) fb)/\Below w.heap.size w wr) (λ_ i _=>n - (intOf i).toNat)
 case atStart=>exact⟨0,true,Nat.zero_le _,rfl,rfl,j3 (by rw[List.drop_zero,q9 HR]),Below.refl _ _⟩
 case round=>
  obtain⟨j,fb,hj,rfl,rfl,hh,F2⟩:=hrel;have d1:=(F2.cell (p:=⟨b,1,none⟩) K9).trans c1
  by_cases A1:j<n
  ·obtain⟨x,hx⟩:∃x,(qb8 t)[j]?=some x:=⟨_,List.getElem?_eq_getElem (by rw[q9 HN];exact A1)⟩
   obtain⟨g,bx,rfl,bH,O4,cS,bV⟩:=q9 HS j x hx;have dx:=(F2.cell (p:=⟨g,j,none⟩) O4).trans cS;have qV:x∈qb8 t:=List.mem_of_getElem? hx;have bP:=j3 (bV.kept (Kept.of_below F2));have hm:((qb8 t).map qb3)[j]?=some (qb3 x):=by rw[List.getElem?_map,hx];rfl
   have CX:=j3 (q9 HC x qV);clear hx bV cS qV
   cases R7:qb3 x with
   | err q=>
    have HT:Hid (R=some q):=j3 (by rw[q9 hh,dem_err (by rw[hm,R7])]);have CM:=j3 R7;clear hh hm R7
    go_wp2_with(go_at_call 104;refine(q9 CX _ _ (q9 bP)).mono ?_;rintro e w1⟨A7,h1⟩;rw[q9 CM]at h1;subst h1;simp only[qd2])
    rw[q9 HT];exact⟨rfl,j6 F2 A7,rfl⟩
   | ok c=>
    have HT:Hid (R=dem want pl (((qb8 t).map qb3).drop (j+1)) (fb&&(c==want||c==0))):=j3 (by rw[q9 hh,dem_ok (by rw[hm,R7])]);have CM:=j3 R7;clear hh hm R7;cases fb<;>cases U6:(c==want)<;>cases aM:(c==0)
    all_goals
     rw[U6,aM]at HT;simp only[Bool.and_true,Bool.and_false,Bool.or_true,Bool.or_false,Bool.or_self,Bool.and_self]at HT
     go_wp2_with(go_at_call 104;refine(q9 CX _ _ (q9 bP)).mono ?_;rintro e w1⟨A7,h1⟩;rw[q9 CM]at h1;subst h1)
     go_roundw
     case rel=>exact⟨j+1,_,by omega,by go_num,rfl,HT,j6 F2 A7⟩
     case measure=>simp[intOf];omega
  ·have HT:Hid (R=if fb then none else some pl):=j3 (by rw[q9 hh,dem_end (by rw[List.length_map,q9 HN];omega)])
   clear hh;cases fb
   ·go_wp2_with fail
    rw[q9 HT];exact⟨rfl,F2,rfl⟩
   ·go_wp2_with fail
    go_end0
    rw[q9 HT];exact⟨F2,rfl⟩
end
section
def zb3:CRes->Option Int
 | .err q=>some q
 | .ok c=>if(c != 3&&c != 0)=true then some 0 else none
end
section
def AlikeEnds(w:World)(r:CRes)(e:Ending)(w':World):Prop:=Below w.heap.size w w'/\match r with
 | .ok _=>e=.returned (.tuple #[])
 | .err q=>e=qd2 4 q
theorem alike_any(lo:Nat)(p:Pay)(x y:Ast)(hx:ve5 lo x)(hy:ve5 lo y)(w:World)(v:Value)(h:IsNode lo w v (.bin p x y)):
  Calls prog 149 #[v] w (AlikeEnds w (qq1 p.place (qb3 x) (qb3 y))):=by
 obtain⟨b,g,v1,v2,rfl,hn,bH,O4,e1,e2,n1,n2⟩:=h;obtain⟨b1,rfl⟩:=n1.ptr;obtain⟨b2,rfl⟩:=n2.ptr;obtain⟨aV,K9,c0,c1,c2,c3,c4,c5,c6⟩:=hn;obtain⟨pl,T8⟩:∃pl,p.place=pl:=⟨_,rfl⟩;rw[T8]at c1 ⊢;have N1:=j3 (n1.kept ((Kept.refl lo w).drew));have N2:=j3 n2;have CX:=j3 hx;have CY:=j3 hy;clear c0 c3 c4 c5 c6 n1 n2 hx hy T8
 cases lL:qb3 x with
 | err q=>
  have HX:=j3 lL;clear lL;rw[qq1];go_enter func149,ntmps149
  go_wp2_with fail
  go_region_with(first|(go_at_call_of 104 (Value.pointer (some { block:=b1,off:=0 }));refine(q9 CX _ _ (q9 N1)).mono ?_;rintro e w1⟨A7,h1⟩;rw[q9 HX]at h1;subst h1;refine gone (w:=w1) ⟨rfl,((Below.refl w.heap.size w).drew).trans A7,rfl⟩ ?_))
  all_goals trivial
 | ok cx=>
  have HX:=j3 lL;clear lL
  cases hyc:qb3 y with
  | err q=>
   have HY:=j3 hyc;clear hyc;rw[qq1];go_enter func149,ntmps149
   go_wp2_with fail
   go_region_with(first|(go_at_call_of 104 (Value.pointer (some { block:=b1,off:=0 }));refine(q9 CX _ _ (q9 N1)).mono ?_;rintro e w1⟨A7,h1⟩;rw[q9 HX]at h1;subst h1;have A7:Below w.heap.size w w1:=((Below.refl w.heap.size w).drew).trans A7;obtain⟨hc,hf⟩:=qb0 A7;have k2:w1.cell? ⟨b,2,none⟩=some (.slice (some ⟨g,0,none⟩) 2 2):=(hc _ 2 K9).trans c2;have k3:w1.cell? ⟨g,0,none⟩=some (.pointer (some ⟨b1,0,none⟩)):=(hc _ 0 O4).trans e1;have k4:w1.cell? ⟨g,1,none⟩=some (.pointer (some ⟨b2,0,none⟩)):=(hc _ 1 O4).trans e2;have z1:=A7.size;have A7:=j3 A7;clear hc hf)|(go_at_call_of 104 (Value.pointer (some { block:=b2,off:=0 }));refine(q9 CY _ _ ((q9 N2).kept (Kept.of_below (q9 A7)))).mono ?_;rintro e w2⟨B9,h2⟩;rw[q9 HY]at h2;subst h2;refine gone (w:=w2) ⟨rfl,j6 (q9 A7) B9,rfl⟩ ?_))
   all_goals trivial
  | ok cy=>
   have HY:=j3 hyc;clear hyc;rw[qq1];obtain⟨R,hR⟩:∃r,(if(cx != cy&&cx != 0&&cy != 0)=true then CRes.err pl else CRes.ok 3)=r:=⟨_,rfl⟩;rw[hR];have HR:=j3 hR;clear hR;go_enter func149,ntmps149
   go_wp2_with fail
   go_region_held3 (λw'=>w'.cell? ⟨b,2,none⟩=some (.slice (some ⟨g,0,none⟩) 2 2)/\w'.cell? ⟨g,0,none⟩=some (.pointer (some ⟨b1,0,none⟩))/\w'.cell? ⟨g,1,none⟩=some (.pointer (some ⟨b2,0,none⟩))) (go_keep) (first|(go_at_call_of 104 (Value.pointer (some { block:=b1,off:=0 }));refine(q9 CX _ _ (q9 N1)).mono ?_;rintro e w1⟨A7,h1⟩;rw[q9 HX]at h1;subst h1;have A7:Below w.heap.size w w1:=((Below.refl w.heap.size w).drew).trans A7;obtain⟨hc,hf⟩:=qb0 A7;have k2:w1.cell? ⟨b,2,none⟩=some (.slice (some ⟨g,0,none⟩) 2 2):=(hc _ 2 K9).trans c2;have k3:w1.cell? ⟨g,0,none⟩=some (.pointer (some ⟨b1,0,none⟩)):=(hc _ 0 O4).trans e1;have k4:w1.cell? ⟨g,1,none⟩=some (.pointer (some ⟨b2,0,none⟩)):=(hc _ 1 O4).trans e2;have z1:=A7.size;have A7:=j3 A7;clear hc hf)|(go_at_call_of 104 (Value.pointer (some { block:=b2,off:=0 }));refine(q9 CY _ _ ((q9 N2).kept (Kept.of_below (q9 A7)))).mono ?_;rintro e w2⟨B9,h2⟩;rw[q9 HY]at h2;subst h2;obtain⟨hc,hf⟩:=qb0 B9;have j1:w2.cell? ⟨b,1,none⟩=some (.int .i64 pl):=(hc _ 1 (by omega)).trans (((qb0 (q9 A7)).1 _ 1 K9).trans c1);have l2:w2.cell? ⟨b,2,none⟩=some (.slice (some ⟨g,0,none⟩) 2 2):=(hc _ 2 (by omega)).trans k2;have l3:w2.cell? ⟨g,0,none⟩=some (.pointer (some ⟨b1,0,none⟩)):=(hc _ 0 (by omega)).trans k3;have l4:w2.cell? ⟨g,1,none⟩=some (.pointer (some ⟨b2,0,none⟩)):=(hc _ 1 (by omega)).trans k4;have B9:=j3 (j6 (q9 A7) B9);clear hc hf))
   clear k2 k3 k4 l2 l3 l4 c1 c2 e1 e2;cases h1:(cx != cy)<;>cases h2:(cx != 0)<;>cases h3:(cy != 0)
   all_goals
    rw[h1,h2,h3]at HR
    go_wp2_with fail
    rw[←q9 HR]
    first|exact⟨rfl,q9 B9,rfl⟩|(go_end0;exact⟨q9 B9,rfl⟩)
end
section
theorem ju5{op pl want c:Int}{rs:List CRes}(h:qg1 op pl rs=qt7 want pl c rs)(hq:dem want pl rs true=none):qg1 op pl rs=.ok c:=by
 rw[h,qt7,hq]
theorem ju6{op pl want c q:Int}{rs:List CRes}(h:qg1 op pl rs=qt7 want pl c rs)(hq:dem want pl rs true=some q):qg1 op pl rs=.err q:=by
 rw[h,qt7,hq]
theorem ji8(lo:Nat)(t:Ast)(ho:(qj1 t).op=0\/(qj1 t).op=1\/(qj1 t).op=2):ve5 lo t:=by
 intro w v h;have hc:qb3 t=.ok (qj1 t).op:=by rw[vu1];rcases ho with ho|ho|ho<;>rw[ho]<;>rfl
 rw[hc];obtain⟨b,sv,rfl,G6,_⟩:=h.parts;have c0:=G6.c0;clear G6 h hc;rcases ho with ho|ho|ho
 all_goals
  rw[ho]at c0 ⊢;clear ho;go_enter func104,ntmps104
  go_wp2_with fail
  go_ret;exact⟨Below.refl _ _,rfl⟩
theorem vk2(lo:Nat)(t:Ast)(want c:Int)(U7:∀x∈qb8 t,ve5 lo x)(hC:(want=3/\c=3/\((qj1 t).op=5\/(qj1 t).op=6\/(qj1 t).op=7))\/(want=1/\c=3/\((qj1 t).op=10\/(qj1 t).op=11\/(qj1 t).op=12\/(qj1 t).op=13\/(qj1 t).op=20))\/(want=1/\c=1/\((qj1 t).op=14\/(qj1 t).op=15\/(qj1 t).op=16\/(qj1 t).op=17\/(qj1 t).op=18\/(qj1 t).op=19))):ve5 lo t:=by
 intro w v h;have DEM:=j3 (jv1 lo t U7 want w v h);obtain⟨b,sv,rfl,G6,_⟩:=h.parts;have c0:=G6.c0
 have hc:qg1 (qj1 t).op (qj1 t).place ((qb8 t).map qb3)=qt7 want (qj1 t).place c ((qb8 t).map qb3):=by
  rcases hC with⟨rfl,rfl,ho|ho|ho⟩|⟨rfl,rfl,ho|ho|ho|ho|ho⟩|⟨rfl,rfl,ho|ho|ho|ho|ho|ho⟩<;>rw[ho]<;>rfl
 have cU:=vu1 t;clear G6 h U7;cases hd:dem want (qj1 t).place ((qb8 t).map qb3) true
 all_goals
  rw[hd]at DEM
  first|rw[cU,ju5 hc hd]|rw[cU,ju6 hc hd]
  clear hc cU hd;rcases hC with⟨rfl,rfl,ho|ho|ho⟩|⟨rfl,rfl,ho|ho|ho|ho|ho⟩|⟨rfl,rfl,ho|ho|ho|ho|ho|ho⟩
 all_goals
  rw[ho]at c0;clear ho;go_enter func104,ntmps104
  go_wp2_with(go_at_call 148;refine(q9 DEM).mono ?_;rintro e w1⟨A7,h1⟩;subst h1;try simp only[qd2])
  first
   | exact⟨rfl,A7,rfl⟩
   | (
    go_ret
    exact⟨A7,rfl⟩)
theorem ju3(lo:Nat)(p:Pay)(x y:Ast)(hx:ve5 lo x)(hy:ve5 lo y)(ho:p.op=8\/p.op=9):ve5 lo (.bin p x y):=by
 intro w v h;rcases ho with ho|ho
 all_goals
  have ALI:=j3 (alike_any lo p x y hx hy w v h);obtain⟨b,sv,rfl,G6,_⟩:=h.parts;have c0:w.cell? ⟨b,0,none⟩=some (.int .i64 p.op):=G6.c0;rw[ho]at c0;have hc:qb3 (.bin p x y)=qq1 p.place (qb3 x) (qb3 y):=by rw[qb3,ho];rfl
  rw[hc]
  have h3:∀c,qq1 p.place (qb3 x) (qb3 y)=.ok c->c=3:=by
   intro c h;unfold qq1 at h
   split at h
   ·cases h
   ·cases h
   ·split at h
    ·cases h
    ·injection h with h;exact h.symm
  obtain⟨r,hr⟩:∃r,qq1 p.place (qb3 x) (qb3 y)=r:=⟨_,rfl⟩;rw[hr]at ALI h3 ⊢;clear G6 h hc ho hr hx hy
  cases r with
  | ok c=>
   obtain rfl:=h3 c rfl;clear h3;go_enter func104,ntmps104
   go_wp2_with(go_at_call 149;refine(q9 ALI).mono ?_;rintro e w1⟨A7,h1⟩;subst h1)
   go_ret;exact⟨A7,rfl⟩
  | err q=>
   clear h3;go_enter func104,ntmps104
   go_wp2_with(go_at_call 149;refine(q9 ALI).mono ?_;rintro e w1⟨A7,h1⟩;subst h1;simp only[qd2])
   exact⟨rfl,A7,rfl⟩
theorem ju4(lo:Nat)(t:Ast)(hN:((qj1 t).op==0)=false/\((qj1 t).op==1)=false/\((qj1 t).op==2)=false/\((qj1 t).op==5)=false/\((qj1 t).op==6)=false/\((qj1 t).op==7)=false/\((qj1 t).op==10)=false/\((qj1 t).op==11)=false/\((qj1 t).op==12)=false/\((qj1 t).op==13)=false/\((qj1 t).op==20)=false/\((qj1 t).op==14)=false/\((qj1 t).op==15)=false/\((qj1 t).op==16)=false/\((qj1 t).op==17)=false/\((qj1 t).op==18)=false/\((qj1 t).op==19)=false/\((qj1 t).op==8)=false/\((qj1 t).op==9)=false):ve5 lo t:=by
 intro w v h;obtain⟨e0,e1,e2,e5,e6,e7,iK,fW,dM,mH,oR,eW,jK,wG,wF,AR,AQ,e8,e9⟩:=hN;have hc:qb3 t=.ok 3:=by rw[vu1];simp only[qg1,e0,e1,e2,e5,e6,e7,iK,fW,dM,mH,oR,eW,jK,wG,wF,AR,AQ,e8,e9,Bool.or_self,Bool.false_eq_true,if_false]
 rw[hc];obtain⟨b,sv,rfl,G6,_⟩:=h.parts;have c0:=G6.c0;clear G6 h hc;go_enter func104,ntmps104
 go_wp2_with fail
 go_ret;exact⟨Below.refl _ _,rfl⟩
theorem qy3(lo:Nat)(t:Ast)(hwf:WfA t)(U7:∀x∈qb8 t,ve5 lo x):ve5 lo t:=by
 by_cases h0:(qj1 t).op=0\/(qj1 t).op=1\/(qj1 t).op=2
 ·exact ji8 lo t h0
 by_cases h1:(qj1 t).op=5\/(qj1 t).op=6\/(qj1 t).op=7
 ·exact vk2 lo t 3 3 U7 (.inl ⟨rfl,rfl,h1⟩)
 by_cases h2:(qj1 t).op=10\/(qj1 t).op=11\/(qj1 t).op=12\/(qj1 t).op=13\/(qj1 t).op=20
 ·exact vk2 lo t 1 3 U7 (.inr (.inl ⟨rfl,rfl,h2⟩))
 by_cases h3:(qj1 t).op=14\/(qj1 t).op=15\/(qj1 t).op=16\/(qj1 t).op=17\/(qj1 t).op=18\/(qj1 t).op=19
 ·exact vk2 lo t 1 1 U7 (.inr (.inr ⟨rfl,rfl,h3⟩))
 by_cases h8:(qj1 t).op=8\/(qj1 t).op=9
 ·cases t with
  | leaf p=>exact absurd h8 (_root_.not_or.2 hwf)
  | un p x=>exact absurd h8 (_root_.not_or.2 hwf.1)
  | bin p x y=>exact ju3 lo p x y (U7 x (by simp[qb8])) (U7 y (by simp[qb8])) h8
  | tri p x y z=>exact absurd h8 (_root_.not_or.2 hwf.1)
 exact ju4 lo t (by simp only[beq_eq_false_iff_ne];simp only[_root_.not_or]at h0 h1 h2 h3 h8;(repeat' apply And.intro)<;>(intro;omega))
theorem class_all(lo:Nat):∀t,WfA t->ve5 lo t:=by
 intro t
 induction t with
 | leaf p=>intro h;exact qy3 lo _ h (λx hx=>by simp[qb8]at hx)
 | un p x ih=>intro h;exact qy3 lo _ h (λy hy=>by simp[qb8]at hy;subst hy;exact ih h.2)
 | bin p x y ihx ihy=>intro h;exact qy3 lo _ h (λz hz=>by simp[qb8]at hz;rcases hz with rfl|rfl;exact ihx h.1;exact ihy h.2)
 | tri p x y z ihx ihy ihz=>intro h;exact qy3 lo _ h (λu hu=>by simp[qb8]at hu;rcases hu with rfl|rfl|rfl;exact ihx h.2.1;exact ihy h.2.2.1;exact ihz h.2.2.2)
theorem check_any(lo:Nat)(t:Ast)(hwf:WfA t)(w:World)(v:Value)(h:IsNode lo w v t):
  Calls prog 57 #[v] w (DemEnds w (zb3 (qb3 t))):=by
 have CLS:=j3 (class_all lo t hwf w v h);obtain⟨b,rfl⟩:=h.ptr;clear h hwf
 cases hc:qb3 t with
 | err q=>
  rw[hc]at CLS;clear hc;go_enter func57,ntmps57
  go_wp2_with(go_at_call 104;refine(q9 CLS).mono ?_;rintro e w1⟨A7,h1⟩;subst h1;simp only[qd2])
  exact⟨rfl,A7,rfl⟩
 | ok c=>
  rw[hc]at CLS;clear hc;cases h1:(c != 3)<;>cases h2:(c != 0)
  all_goals
   rw[zb3,h1,h2];simp only[Bool.and_true,Bool.and_false,Bool.and_self,Bool.false_eq_true,if_false,if_true];go_enter func57,ntmps57
   go_wp2_with(go_at_call 104;refine(q9 CLS).mono ?_;rintro e w1⟨A7,h1⟩;subst h1)
   first|exact⟨rfl,A7,rfl⟩|(go_end0;exact⟨A7,rfl⟩)
end
section
theorem rng0:Rng 0:=⟨by decide,by decide⟩
end
section
theorem EvAt.take{w:World}{b off:Nat}{ps:List Pr}(h:EvAt w b off ps)(k:Nat):EvAt w b off (ps.take k):=by
 intro j p hj;rw[List.getElem?_take]at hj
 split at hj
 ·exact h j p hj
 ·cases hj
def Short(ps:List Pr):Prop:=∀p∈ps,p.name.length<=140737488355328/\p.val.str.length<=140737488355328
theorem EvAt.later{w W w1 w2:World}{b off:Nat}{ps:List Pr}{o:Obj}(h:EvAt w b off ps)(hW:W=(w.alloc o).drew)(A1:b<w.heap.size)(A7:Below W.heap.size W w1)(B9:Below w1.heap.size w1 w2):EvAt w2 b off ps:=by
 subst hW;have h1:EvAt (w.alloc o).drew b off ps:=h.below ((Below.refl _ _).alloc (Nat.le_refl _) o).drew A1;have cP:b<(w.alloc o).drew.heap.size:=by show b<(w.alloc o).heap.size;simp;omega
 exact(h1.below A7 cP).below B9 (Nat.lt_of_lt_of_le cP A7.size)
end
section
open Go.RowKit Go.Shelf Go.Proofs.Tryz
attribute [local go_sem] Oper.semAt_some
def ve1(ts:List (List UInt8))(k:Nat):List (List UInt8):=(List.range k).map λj=>ts[j]?.getD []
theorem jq0(ts:List (List UInt8))(k:Nat):ve1 ts (k+1)=ve1 ts k++[ts[k]?.getD []]:=by simp[ve1,List.range_succ]
theorem ve2(ts:List (List UInt8))(k:Nat):(ve1 ts k).length=k:=by simp[ve1]
theorem za5(ts:List (List UInt8)):ve1 ts ts.length=ts:=by
 apply List.ext_getElem
 ·simp[ve1]
 ·intro i h1 h2
  simp[ve1,h2]
theorem za8(n:Nat)(hn:1<=n)(l Bs n₀ b cap:Nat)(ts:List (List UInt8))(C7:ts.length<=1000)(hb:b<n₀)(J Jx:List (List UInt8)->World->Prop)
  (hY:∀pre x W,J pre W->pre.length<ts.length->YieldAt Fence.wide (n - 1) prog l #[.string (BS x)] W λe W'=>
   (e=.returned (.bool true)/\J (pre++[x]) W'/\Below n₀ W W')\/(e=.returned (.bool false)/\Jx (pre++[x]) W'))
  (W:World) (hBs:W.cell? ⟨Bs,0,none⟩=some (.slice (some ⟨b,0,none⟩) ts.length cap)) (hc:∀j,j<ts.length->W.cell? ⟨b,j,none⟩=some (.string (BS (ts[j]?.getD [])))) (h0:J [] W) :
  CallsIn Fence.wide n prog 208 #[.func (.yield l) #[] #[],.pointer (some ⟨Bs,0,none⟩)] W λe W'=>(∃v,e=.returned v) /\
   ((∃ys,ys=ts/\J ys W')\/(∃pre,pre.length<=ts.length/\Jx pre W')):=by
 obtain⟨len,hl⟩:∃len,ts.length=len:=⟨_,rfl⟩;rw[hl]at C7 hY hBs hc;have HL:=j3 hl;clear hl;refine callsIn_of_wp func208 rfl trivial ?_ rfl;simp only[ntmps208,List.size_toArray,List.length_cons,List.length_nil,Nat.reduceAdd,Nat.reduceSub,Array.replicate_succ,Array.replicate_zero,List.push_toArray,List.append_toArray,List.nil_append,List.cons_append]
 gi_wp2
 gi_loopw [7] (λi wr=>∃k:Nat,k<=len/\i=.int .i64 k/\J (ve1 ts k) wr/\Below n₀ W wr)
  (λi _=>len - (intOf i).toNat)
 case atStart=>exact⟨0,Nat.zero_le _,rfl,h0,Below.refl _ _⟩
 case round=>
  obtain⟨k,hk,rfl,GH,bV⟩:=hrel;have cS:k<len->wr.cell? ⟨b,k,none⟩=some (.string (BS (ts[k]?.getD []))):=λh=>(bV.cell (p:=⟨b,k,none⟩) hb).trans (hc k h)
  by_cases A1:k<len
  ·obtain⟨fn,tmps,assign,body,hy,hR⟩:=hY _ (ts[k]?.getD []) wr GH (by rw[ve2];exact A1)
   have MX:=cS A1
   gi_wp2
   refine hR.mono ?_;rintro e W3 (⟨rfl,NR,A9⟩|⟨rfl,AN⟩)
   ·gi_wp2
    go_roundw
    case rel=>exact⟨k+1,by omega,by simp,by rw[jq0];exact NR,bV.trans A9⟩
    case measure=>simp[intOf];omega
   ·gi_wp2
    refine bodyPost_ret (results_none rfl _ _ _) rfl ?_;exact⟨⟨_,rfl⟩,.inr ⟨_,by rw[List.length_append,ve2,q9 HL];simp;omega,AN⟩⟩
  ·obtain rfl:k=len:=by omega
   gi_wp2
   go_end0
   exact⟨⟨_,rfl⟩,.inl ⟨_,by rw[←q9 HL,za5],GH⟩⟩
theorem jg9(n:Nat)(hn:1<=n)(Bs n₀ b cap:Nat)(ts:List (List UInt8))(C7:ts.length<=1000)(hb:b<n₀)(w:World)(hBs:Bs<w.heap.size)(hn₀:n₀<=w.heap.size)
  (hc:w.cell? ⟨Bs,0,none⟩=some (.slice (some ⟨b,0,none⟩) ts.length cap)) (O5:∀j,j<ts.length->w.cell? ⟨b,j,none⟩=some (.string (BS (ts[j]?.getD [])))) :
  SeqStopsK Fence.wide n prog 208 #[.pointer (some ⟨Bs,0,none⟩)] (λx:List UInt8=>#[Value.string (BS x)]) (Below n₀) (λys=>ys=ts) (λpre=>pre.length<=ts.length) ts.length w:=λl J Jx W hW _ _ hY h0=>
 za8 n hn l Bs n₀ b cap ts C7 hb J Jx hY W ((hW.cell (p:=⟨Bs,0,none⟩) hBs).trans hc) (λj hj=>((hW.mono hn₀).cell (p:=⟨b,j,none⟩) hb).trans (O5 j hj)) h0
theorem info_strg:(prog.info? 9).map (λi=>(i.zero,i.size,i.bytes))=some (some (.string ⟨#[]⟩),1,16):=by kernel_rfl
theorem ja1(n:Nat)(hn:2<=n)(Bs b cap:Nat)(ts:List (List UInt8))(C7:ts.length<=1000)(w:World)(hb:b<w.heap.size)(hBs:Bs<w.heap.size)
  (hc:w.cell? ⟨Bs,0,none⟩=some (.slice (some ⟨b,0,none⟩) ts.length cap)) (O5:∀j,j<ts.length->w.cell? ⟨b,j,none⟩=some (.string (BS (ts[j]?.getD [])))) :
  CallsIn Fence.wide n prog 251 #[.slice none 0 0,.func (.func 208) #[] #[.pointer (some ⟨Bs,0,none⟩)]] w λe w'=>∃v,e=.returned v/\w'.ownsRow w.heap.size 9 1 v ts.length (ts.map λx=>.string (BS x))/\Below w.heap.size w w':=by
 have h1:1<=n:=by omega
 obtain⟨i0,hi,I8,C8,F8⟩:=info_parts info_strg;refine callsIn_of_wp_marks func251 rfl trivial ?_ rfl;simp only[ntmps251,List.size_toArray,List.length_cons,List.length_nil,Nat.reduceAdd,Nat.reduceSub,Array.replicate_succ,Array.replicate_zero,List.push_toArray,List.append_toArray,List.nil_append,List.cons_append]
 gi_wp2
 have bO:=Boxed.new w 62 (.slice none 0 0);have iE:Below w.heap.size w (w.alloc (.cells #[.slice none 0 0] 62)):=(Below.refl _ w).alloc (Nat.le_refl _) _;refine wpIn_rangeFunc_ownG rfl h1 (gf:=208) (lb:=#[.pointer (some ⟨Bs,0,none⟩)]) rfl trivial (enters_of func208 (by kernel_rfl) rfl)
  (jg9 (n - 1) (by omega) Bs w.heap.size b cap ts C7 hb (w.alloc (.cells #[.slice none 0 0] 62)) (by simp;omega) (by simp) ((iE.cell (p:=⟨Bs,0,none⟩) hBs).trans hc) (λj hj=>(iE.cell (p:=⟨b,j,none⟩) hb).trans (O5 j hj))) belowK_t (belowK_b (by simp)) (Below.refl _ _) (λ_=>rfl)
  (λ(pre:List (List UInt8)) W=>(∃v,Boxed W w.heap.size 62 v/\W.ownsRow w.heap.size 9 1 v pre.length (pre.map λx=>.string (BS x))/\True)/\Below w.heap.size w W)
  (λ_ _ _=>False)
  (OwnFrom.and (Own.from (holdsRow_own w.heap.size w.heap.size 62 9 1 (λ(pre:List (List UInt8))=>pre.length) (λ(pre:List (List UInt8))=>pre.map λx=>Value.string (BS x)) (λ_ _=>True)) _) (ownFrom_below (Nat.le_refl _) (by simp)))
  (λ_ _ _ _ _ hs _ _=>hs)
  ⟨⟨_,bO,World.ownsRow_nil _ _ _ _,trivial⟩,iE⟩
  (λx=>{ tmps:=#[.slice none 0 0,.func (.func 208) #[] #[.pointer (some ⟨Bs,0,none⟩)],.pointer (some ⟨w.heap.size,0,none⟩),undef,.slice none 0 0,.string (BS x),.func (.func 208) #[] #[.pointer (some ⟨Bs,0,none⟩)],.string (BS x),undef,undef,undef,undef,undef],defers:=[] }) ?assign ?body ?done ?stop
 case assign=>
  intro l x W K hK
  gi_wp2
  exact hK
 case body=>
  rintro l pre x W⟨⟨v,hv,J3,_⟩,hB⟩ A1;have hc:=hv.cell
  gi_wp2_with (gi_at_builtin;refine wpListIn_append_own _ rfl _ _ 62 rfl w.heap.size 9 i0 (.string ⟨#[]⟩) 1 16 underlying62 hi I8 C8 F8 rfl (by decide) _ _ _ rfl (J3.alloc _) ⟨W.heap.size,0,none⟩ 1 1 [.string (BS x)] rfl rfl (cell_one_new _ _ _) (by simp[Value.oneCell']) (by unfold maxLen;omega) (by omega) (by have:=hB.size;simp;omega) ?_;intro v' w1 G3 B7 _;obtain⟨g',cap',rfl⟩:=ownsRow_succ G3;obtain⟨a9,N6,A5,A3,B9⟩:=hv.appended (by decide) J3 hB.size (Nat.le_refl _) G3 B7;have F1:=a9.cell;have F7:=a9.frozen)
  exact⟨A3.from _,B9,⟨_,N6,by simpa using A5,trivial⟩,hB.trans B9⟩
 case done=>
  rintro D ys W hD rfl⟨⟨v,hv,J3,_⟩,hB⟩ hK;have hc:=hv.cell
  gi_wp2
  refine⟨by simp,.inl ⟨_,_,rfl,run_takeDeferred hK, ?_⟩⟩;exact⟨_,results_tmp rfl _ _ _,v,rfl,ownsRow_putObj J3 _ hK rfl,hB.trans (belowK_b (w:=w) (Nat.le_refl _) W D _ _ (by simp at hD;omega) hK rfl rfl)⟩
 case stop=>
  rintro D c pre W _ _ h _;exact h.elim
end
end Go.Proofs.YtfkcaldjphakpaaGreatDoor
