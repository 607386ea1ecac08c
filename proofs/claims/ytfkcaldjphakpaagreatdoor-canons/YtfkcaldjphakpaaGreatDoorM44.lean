/- strconv.ErrRange lies where the rows say. An error's number is never 0. Eval of any text and any list of properties. The laws by the document's answer: an event with spare room behind it: copy of rows whose elements have several cells. A list of properties as an argument of a law. A script of steps as an argument of a law. The laws by the document's answer: UpTo over any steps that leave what the script has made as it must be. Texts in a slice: Values, AppendSeq, Collect. What program.Read keeps in memory while it reads. Rows of elements of several cells: copy, clear, append onto a row's own part. slices.Insert and slices.Clone of subscriptions. slices.Insert of subscriptions, in the middle. What the library's tables and variables are at a row's own world. -/
import Derived.Test.YtfkcaldjphakpaaGreatDoorM00
import Derived.Test.YtfkcaldjphakpaaGreatDoorRows
import Derived.LaidLaws
import Derived.Lib.LaidU8
import Derived.MakeChecks
import Derived.Test.YtfkcaldjphakpaaGreatDoorM26
import Derived.Test.YtfkcaldjphakpaaGreatDoorM30
import Derived.Test.YtfkcaldjphakpaaGreatDoorM09
import Derived.Test.YtfkcaldjphakpaaGreatDoorM08
import Derived.Test.YtfkcaldjphakpaaGreatDoorM07
import Derived.Test.YtfkcaldjphakpaaGreatDoorShelf
import Derived.RegionTactic
import Derived.Deep.RegionHeld3
import Derived.Deep.RegionWith
import Derived.Deep.QuietTactic
import Derived.BigQuiet
import Derived.Deep.OwnRows
import Derived.Laws.CopyRow
import Derived.WalkKit
import Derived.ProofKit
import Derived.Deep.Slices
import Derived.Deep.Strs
import Derived.SizedLaws
import Derived.WideKeyArgs
import Derived.Laws.Rows
import Derived.Lib.SmallJoins
import Derived.RangeFuncBox
import Derived.RangeFuncLeaves
import Derived.Shelf.Abstract
import Derived.OwnWalkIn
import Derived.TacticsInMore
import Derived.LoopNIn
import Derived.LoopIn
import Derived.Maps.AppendAt
import Derived.Test.YtfkcaldjphakpaaGreatDoorM03
import Derived.Test.YtfkcaldjphakpaaGreatDoorM11
import Derived.Test.YtfkcaldjphakpaaGreatDoorM10
import Derived.Test.YtfkcaldjphakpaaGreatDoorM04
import Derived.Deep.AppendLies
import Derived.Lib.Overlaps
import Derived.Lib.AppendZerosOnto
import Derived.Lib.LaidTab
import Derived.Shelf.Vars
set_option maxHeartbeats 16000000
set_option maxRecDepth 100000
namespace Go.Proofs.YtfkcaldjphakpaaGreatDoor
open Go.RowKit
section
theorem je1 : Tryz.prog.globalNamed "strconv.ErrRange" = some 3 := by kernel_rfl
theorem vs3:(Tryz.prog.globals[3]?).map (·.type)=some 280:=by kernel_rfl
theorem err_of {W : World} {l : List (String × DataW Unit)} (hm : ("strconv.ErrRange", Rows.laid_strconv_ErrRange) ∈ l) (h : laidMet Tryz.prog l W) : ErrOk W := by
 obtain ⟨g,t,cs,fuel,p,h1,h2,h3,h4⟩:=Lib.laidMet.reads h hm
 obtain rfl:3=g:=Option.some.inj (je1.symm.trans h1)
 obtain rfl:280=t:=Option.some.inj (vs3.symm.trans h2)
 obtain ⟨f1,u,v,hcs,_,_⟩:=iface_of_trod Tryz.underlying280 h4
 unfold World.var? at h3
 rw [je1] at h3
 simp only [Option.bind_some] at h3
 split at h3
 ·rename_i c ty fz hh
  injection h3 with h3
  subst h3
  refine ⟨(Array.getElem?_eq_some_iff.1 hh).1,.iface u v, ?_,.inr ⟨u,v,rfl⟩⟩
  have h0:c[0]?=some (.iface u v):=by
   rw [←Array.getElem?_toList,hcs];rfl
  rw [World.cell?]
  simp [hh,h0]
 ·cases h3
end
section
def En (r:TRes):Prop:=∀en,r=.err en→en=2∨en=3
def Nz (o:Nat) (f:TS→TRes):Prop:=∀ts,ts.op=o→En (f ts)∧∀t ts',f ts=.ok t ts'→ts'.op=o
theorem En.ok {t:Ast} {ts:TS}:En (.ok t ts):=fun _ h=>by cases h
theorem En.two:En (.err 2):=fun _ h=>by injection h with h;exact .inl h.symm
theorem En.three:En (.err 3):=fun _ h=>by injection h with h;exact .inr h.symm
theorem Nz.join {o:Nat} {f:TS→TRes} (h:Nz o f) (ts:TS) (l:Ast) (ho:ts.op=o):En (vd0 f ts l)∧∀t ts',vd0 f ts l=.ok t ts'→ts'.op=o:=by
 obtain ⟨h1,h2⟩:=h ts.next ho
 unfold vd0
 cases hf:f ts.next with
 | err en=>rw [hf] at h1;exact ⟨h1,fun _ _ h=>by cases h⟩
 | ok t ts'=>exact ⟨En.ok,fun _ _ h=>by injection h with _ e;rw [←e];exact h2 _ _ hf⟩
theorem Nz.loop {o:Nat} {f:TS→TRes} (h:Nz o f) (ks:List Int):∀n l ts,ts.op=o→En (va3 f ks n l ts)∧∀t ts',va3 f ks n l ts=.ok t ts'→ts'.op=o:=by
 intro n
 induction n with
 | zero=>intro l ts ho;rw [va3];exact ⟨En.ok,fun _ _ h=>by injection h with _ e;rw [←e];exact ho⟩
 | succ n ih=>
  intro l ts ho
  rw [va3]
  split
  ·obtain ⟨h1,h2⟩:=h.join ts l ho
   cases hf:vd0 f ts l with
   | err en=>rw [hf] at h1;exact ⟨h1,fun _ _ h=>by cases h⟩
   | ok t ts'=>exact ih t ts' (h2 _ _ hf)
  ·exact ⟨En.ok,fun _ _ h=>by injection h with _ e;rw [←e];exact ho⟩
theorem Nz.row {o:Nat} {f:TS→TRes} (h:Nz o f) (ks:List Int):Nz o (jf4 f ks):=by
 intro ts ho
 obtain ⟨h1,h2⟩:=h ts ho
 unfold jf4
 cases hf:f ts with
 | err en=>rw [hf] at h1;exact ⟨h1,fun _ _ h=>by cases h⟩
 | ok t ts'=>exact h.loop ks _ t ts' (h2 _ _ hf)
theorem Nz.sign {o:Nat} (hk:o≤12) {f:TS→TRes} (h:o<12→Nz (o+1) f) (n:Int) (ts:TS) (ho:ts.op=o):En (vd1 f n ts)∧∀t ts',vd1 f n ts=.ok t ts'→ts'.op=o:=by
 unfold vd1
 by_cases h12:ts.op=12
 ·rw [if_pos h12];exact ⟨En.three,fun _ _ h=>by cases h⟩
 ·rw [if_neg h12]
  obtain ⟨h1,h2⟩:=h (by omega) (tIn ts) (by show ts.op+1=_;omega)
  cases hf:f (tIn ts) with
  | err en=>rw [hf] at h1;exact ⟨h1,fun _ _ h=>by cases h⟩
  | ok t ts'=>exact ⟨En.ok,fun _ _ h=>by injection h with _ e;rw [←e];exact ho⟩
theorem Nz.group {o:Nat} (hk:o≤12) {f:TS→TRes} (h:o<12→Nz (o+1) f) (ts:TS) (ho:ts.op=o):En (qx0 f ts)∧∀t ts',qx0 f ts=.ok t ts'→ts'.op=o:=by
 unfold qx0
 by_cases h12:ts.op=12
 ·rw [if_pos h12];exact ⟨En.three,fun _ _ h=>by cases h⟩
 ·rw [if_neg h12]
  obtain ⟨h1,h2⟩:=h (by omega) (tIn ts) (by show ts.op+1=_;omega)
  cases hf:f (tIn ts) with
  | err en=>rw [hf] at h1;exact ⟨h1,fun _ _ h=>by cases h⟩
  | ok t ts'=>
   show En (if ts'.tk.kind=27 then _ else _)∧∀t2 ts2,(if ts'.tk.kind=27 then _ else _)=TRes.ok t2 ts2→_
   split
   ·exact ⟨En.ok,fun _ _ h=>by injection h with _ e;rw [←e];exact ho⟩
   ·exact ⟨En.two,fun _ _ h=>by cases h⟩
theorem Nz.signed {o:Nat} (hk:o≤12) {f g:TS→TRes} (hS:o<12→Nz (o+1) f) (hE:o<12→Nz (o+1) g):Nz o (qq7 f g):=by
 intro ts ho
 unfold qq7
 split
 ·exact Nz.sign hk hS 14 ts ho
 split
 ·exact Nz.sign hk hS 15 ts ho
 split
 ·exact Nz.group hk hE ts ho
 split
 ·exact ⟨En.ok,fun _ _ h=>by injection h with _ e;rw [←e];exact ho⟩
 split
 ·exact ⟨En.ok,fun _ _ h=>by injection h with _ e;rw [←e];exact ho⟩
 split
 ·exact ⟨En.ok,fun _ _ h=>by injection h with _ e;rw [←e];exact ho⟩
 split
 ·exact ⟨En.ok,fun _ _ h=>by injection h with _ e;rw [←e];exact ho⟩
 split
 ·exact ⟨En.ok,fun _ _ h=>by injection h with _ e;rw [←e];exact ho⟩
 ·exact ⟨En.two,fun _ _ h=>by cases h⟩
theorem nz_isNull {o:Nat} (l:Ast) (ts:TS) (ho:ts.op=o):En (tIsNull l ts)∧∀t ts',tIsNull l ts=.ok t ts'→ts'.op=o:=by
 unfold tIsNull
 split
 ·split
  ·exact ⟨En.ok,fun _ _ h=>by injection h with _ e;rw [←e];exact ho⟩
  ·exact ⟨En.two,fun _ _ h=>by cases h⟩
 ·split
  ·exact ⟨En.ok,fun _ _ h=>by injection h with _ e;rw [←e];exact ho⟩
  ·exact ⟨En.two,fun _ _ h=>by cases h⟩
theorem nz_inLoop {o:Nat} (l:Ast):∀n xs ts,ts.op=o→ts.toks.length<n→En (qn3 l n xs ts)∧∀t ts',qn3 l n xs ts=.ok t ts'→ts'.op=o:=by
 intro n
 induction n with
 | zero=>intro xs ts _ h;omega
 | succ n ih=>
  intro xs ts ho hl
  rw [qn3]
  by_cases h28:ts.tk.kind=28
  ·rw [if_pos h28]
   have hne:=qc5 (by decide) h28
   have hlt:ts.next.toks.length<ts.toks.length:=by
    cases ht:ts.toks with
    | nil=>exact absurd ht hne
    | cons a r=>show (ts.toks.tail).length<_;rw [ht];simp
   split
   ·have:=qc8 ts.next
    exact ih _ ts.next.next ho (by omega)
   ·exact ⟨En.two,fun _ _ h=>by cases h⟩
  ·rw [if_neg h28]
   split
   ·exact ⟨En.ok,fun _ _ h=>by injection h with _ e;rw [←e];exact ho⟩
   ·exact ⟨En.two,fun _ _ h=>by cases h⟩
theorem nz_in {o:Nat} (l:Ast) (ts:TS) (ho:ts.op=o):En (tInRes l ts)∧∀t ts',tInRes l ts=.ok t ts'→ts'.op=o:=by
 unfold tInRes
 split
 ·split
  ·have l1:=qc8 ts
   have l2:=qc8 ts.next
   have l3:=qc8 ts.next.next
   exact nz_inLoop l _ _ ts.next.next.next ho (by omega)
  ·exact ⟨En.two,fun _ _ h=>by cases h⟩
 ·exact ⟨En.two,fun _ _ h=>by cases h⟩
theorem nz_like {o:Nat} (l:Ast) (ts:TS) (ho:ts.op=o):En (tLike l ts)∧∀t ts',tLike l ts=.ok t ts'→ts'.op=o:=by
 unfold tLike
 split
 ·split
  ·split
   ·exact ⟨En.ok,fun _ _ h=>by injection h with _ e;rw [←e];exact ho⟩
   ·exact ⟨En.two,fun _ _ h=>by cases h⟩
  ·exact ⟨En.ok,fun _ _ h=>by injection h with _ e;rw [←e];exact ho⟩
 ·exact ⟨En.two,fun _ _ h=>by cases h⟩
theorem Nz.between {o:Nat} {f:TS→TRes} (h:Nz o f) (l:Ast) (ts:TS) (ho:ts.op=o):En (qn8 f l ts)∧∀t ts',qn8 f l ts=.ok t ts'→ts'.op=o:=by
 unfold qn8
 split
 ·obtain ⟨h1,h2⟩:=h ts.next ho
  cases hf:f ts.next with
  | err en=>rw [hf] at h1;exact ⟨h1,fun _ _ h=>by cases h⟩
  | ok t ts1=>
   show En (if ts1.tk.kind=5 then _ else _)∧∀t2 ts2,(if ts1.tk.kind=5 then _ else _)=TRes.ok t2 ts2→_
   split
   ·have ho1:ts1.op=o:=h2 _ _ hf
    obtain ⟨h3,h4⟩:=h ts1.next ho1
    cases hg:f ts1.next with
    | err en=>rw [hg] at h3;exact ⟨h3,fun _ _ h=>by cases h⟩
    | ok t2 ts2=>exact ⟨En.ok,fun _ _ h=>by injection h with _ e;rw [←e];exact h4 _ _ hg⟩
   ·exact ⟨En.two,fun _ _ h=>by cases h⟩
 ·exact ⟨En.two,fun _ _ h=>by cases h⟩
theorem Nz.keyword {o:Nat} {f:TS→TRes} (h:Nz o f) (bare:Bool) (l:Ast) (ts:TS) (ho:ts.op=o):En (qk3 f bare l ts)∧∀t ts',qk3 f bare l ts=.ok t ts'→ts'.op=o:=by
 unfold qk3
 split
 ·exact nz_in l ts ho
 split
 ·exact nz_like l ts ho
 ·exact h.between l ts ho
theorem Nz.test {o:Nat} {f:TS→TRes} (h:Nz o f):Nz o (vi5 f):=by
 intro ts ho
 obtain ⟨h1,h2⟩:=h ts ho
 unfold vi5
 cases hf:f ts with
 | err en=>rw [hf] at h1;exact ⟨h1,fun _ _ h=>by cases h⟩
 | ok l ts1=>
  have ho1:=h2 _ _ hf
  show En (vi4 f _ l ts1)∧∀t2 ts2,vi4 f _ l ts1=TRes.ok t2 ts2→_
  unfold vi4
  split
  ·exact h.join ts1 l ho1
  split
  ·split
   ·exact nz_isNull l ts1 ho1
   ·exact ⟨En.ok,fun _ _ h=>by injection h with _ e;rw [←e];exact ho1⟩
  split
  ·obtain ⟨h3,h4⟩:=h.keyword (ts.tk.kind==2&&opA l==0) l ts1.next ho1
   cases hg:qk3 f (ts.tk.kind==2&&opA l==0) l ts1.next with
   | err en=>rw [hg] at h3;exact ⟨h3,fun _ _ h=>by cases h⟩
   | ok t2 ts2=>exact ⟨En.ok,fun _ _ h=>by injection h with _ e;rw [←e];exact h4 _ _ hg⟩
  split
  ·exact h.keyword _ l ts1 ho1
  ·exact ⟨En.ok,fun _ _ h=>by injection h with _ e;rw [←e];exact ho1⟩
theorem Nz.denied {o:Nat} (hk:o≤12) {f g:TS→TRes} (hD:o<12→Nz (o+1) f) (hT:Nz o g):Nz o (qr6 f g):=by
 intro ts ho
 unfold qr6
 split
 ·exact Nz.sign hk hD 5 ts ho
 ·exact hT ts ho
structure Nz3 (o:Nat) (L:T3):Prop where
 S:Nz o L.S
 D:Nz o L.D
 E:Nz o L.E
theorem nz_up {o:Nat} (hk:o≤12) {L:T3} (h:o<12→Nz3 (o+1) L):Nz3 o (tUp L):=by
 have hS:=Nz.signed hk (fun e=>(h e).S) (fun e=>(h e).E)
 have hT:=((hS.row [24,25]).row [22,23]).test
 have hD:=Nz.denied hk (fun e=>(h e).D) hT
 exact ⟨hS,hD,(hD.row [5]).row [6]⟩
theorem nz_lvl:∀d o,o+d=12→Nz3 o (tLvl d):=by
 intro d
 induction d with
 | zero=>intro o h;exact nz_up (by omega) (fun e=>absurd e (by omega))
 | succ d ih=>intro o h;exact nz_up (by omega) (fun e=>ih (o+1) (by omega))
theorem vc4 {s:ByteArray} {en pl:Int} (h:qn2 s=.err en pl):en=1∨en=2∨en=3∨en=4:=by
 unfold qn2 at h
 by_cases hs:s.size≤200
 ·rw [if_pos hs] at h
  obtain ⟨L,hL⟩:=vm7 _ s.data.toList (Nat.le_refl _)
  have hst:Str s (j3 s st0) L:=vh9 hL st0 (Nat.zero_le _) (List.drop_zero)
  have hfi:=qa7 s st0 (Nat.zero_le _)
  have hsim:=(jc8 s 12).E (j3 s st0) ⟨L,0⟩ hfi hst rfl
  rcases hsim.cases with ⟨t1,st,ts,e1,e2,e3,e4,e5⟩|⟨en',pl',e1,e2⟩
  ·rw [e1] at h
   change vx2 t1 st=_ at h
   unfold vx2 at h
   by_cases hk:st.tk.kind=0
   ·rw [if_pos hk] at h
    cases hc:chkR (qa4 t1) with
    | some q=>rw [hc] at h;injection h with h1 _;exact .inr (.inr (.inr h1.symm))
    | none=>rw [hc] at h;cases h
   ·rw [if_neg hk] at h;injection h with h1 _;exact .inr (.inl h1.symm)
  ·rw [e1] at h
   injection h with h1 _
   subst h1
   rcases ((nz_lvl 12 0 rfl).E ⟨L,0⟩ rfl).1 _ e2 with e|e
   ·exact .inr (.inl e)
   ·exact .inr (.inr (.inl e))
 ·rw [if_neg hs] at h
  injection h with h1 _
  exact .inl h1.symm
end
section
def EvIn (w:World) (ev:Value) (ps:List Pr):Prop:=
 (ps=[]∧∃a cap,ev=.slice a 0 cap)∨∃b off cap,ev=.slice (some ⟨b,off,none⟩) ps.length cap∧ps.length≤cap∧EvAt w b off ps∧b<w.heap.size
theorem EvIn.below {w w':World} {ev:Value} {ps:List Pr} (h:EvIn w ev ps) (hb:Below w.heap.size w w'):EvIn w' ev ps:=by
 rcases h with h|⟨b,off,cap,rfl,hc,he,hlt⟩
 ·exact .inl h
 ·exact .inr ⟨b,off,cap,rfl,hc,he.below hb hlt,Nat.lt_of_lt_of_le hlt hb.size⟩
theorem EvIn.slice {w:World} {ev:Value} {ps:List Pr} (h:EvIn w ev ps):∃a n c,ev=.slice a n c:=by
 rcases h with ⟨_,a,cap,rfl⟩|⟨b,off,cap,rfl,_⟩
 ·exact ⟨_,_,_,rfl⟩
 ·exact ⟨_,_,_,rfl⟩
structure EvGood (ps:List Pr):Prop where
 short:Short ps
 rng:EvRng ps
 len:ps.length≤140737488355328
theorem read_good {s:ByteArray} {t:Ast} (h:qn2 s=.ok t):vd3 t∧vd2 t:=by
 unfold qn2 at h
 by_cases hs:s.size≤200
 ·rw [if_pos hs] at h
  cases he:(lvl s 12).E (j3 s st0) with
  | err en pl=>rw [he] at h;cases h
  | ok t1 st=>
   rw [he] at h
   change vx2 t1 st=_ at h
   have:t1=t:=by
    unfold vx2 at h
    split at h
    ·split at h
     ·injection h
     ·cases h
    ·cases h
   subst this
   exact ⟨((lvl_num s 12).E _ _ _ (qe2 s st0) he).1,((lvl_bnd s hs 12).E _ _ _ (qa1 hs st0) he).1⟩
 ·rw [if_neg hs] at h;cases h
end
section
def cpR (ats:Array TypeId) (ty:TypeId) (args:Array Value):Sem Value:=Builtin.copy_ ats ty args
theorem cp_foldR (ats:Array TypeId) (ty:TypeId) (args:Array Value):Builtin.copy_ ats ty args=cpR ats ty args:=rfl
end
section
open Go.ChangeShapes Go.WideShapes Go.ChangeAt Go.RowKit Go.Deep
theorem vr7:Tryz.prog.cellsOf 28=4:=by kernel_rfl
theorem cellsVal:Tryz.prog.cellsOf 26=3:=by kernel_rfl
theorem vd6:Tryz.prog.cellsOf 9=1:=by kernel_rfl
theorem jd3:Tryz.prog.cellsOf 3=1:=by kernel_rfl
theorem cellsI64:Tryz.prog.cellsOf 2=1:=by kernel_rfl
theorem vr6:Tryz.prog.bytesOf 28=48:=by kernel_rfl
section
variable {H:Type} {enc:TypeId×Value→H}
theorem jf9 {n:Int} (h:(Lit.int .i64 n).wf=true):Rng n:=by
 simp only [Lit.wf,Bool.and_eq_true,decide_eq_true_eq] at h
 exact ⟨h.1,h.2⟩
theorem open_prop {W:World} {base:Nat} {sp:Nat→Bool} {n:Nat} {cs:List Value} {x:DataW H×List MemPlace} (h:DataW.trod enc Tryz.prog W base sp true n 28 cs=some x) :
  ∃(nm st:ByteArray) (k m:Int),cs=[.string nm,.int .i64 k,.int .i64 m,.string st]∧x=(.agg [.lit (.string nm.data.toList),.agg [.lit (.int .i64 k),.lit (.int .i64 m),.lit (.string st.data.toList)]],[])∧Rng m:=by
 obtain ⟨y0,y1,n1,rfl,hl,t0,t1⟩:=trod_struct2 Tryz.underlying28 h
 rw [vr7] at hl
 match cs,hl with
 | [c0,c1,c2,c3],_=>
  simp only [vd6,cellsVal,List.drop,List.take] at t0 t1
  obtain ⟨nm,h0,rfl,_⟩:=DataW.trod_string Tryz.underlying9 t0
  obtain ⟨z0,z1,z2,n2,rfl,_,u0,u1,u2⟩:=trod_struct3 Tryz.underlying26 t1
  simp only [jd3,cellsI64,vd6,List.drop,List.take] at u0 u1 u2
  obtain ⟨k,h1,rfl,_⟩:=DataW.trod_int Tryz.underlying3 u0
  obtain ⟨m,h2,rfl,wm⟩:=DataW.trod_int Tryz.underlying2 u1
  obtain ⟨st,h3,rfl,_⟩:=DataW.trod_string Tryz.underlying9 u2
  simp only [List.cons.injEq,and_true] at h0 h1 h2 h3
  subst h0 h1 h2 h3
  exact ⟨nm,st,k,m,rfl,rfl,jf9 wm⟩
theorem qy0 {P:Program} {e:TypeId} {d:DataW H}:∀{l:List (DataW H)},d∈l→∀n∈d.weights P e,n∈DataW.weightsAll P e l:=by
 intro l
 induction l with
 | nil=>intro h;cases h
 | cons a r ih=>
  intro h n hn
  rw [DataW.weightsAll]
  rcases List.mem_cons.1 h with rfl|h
  ·exact List.mem_append_left _ hn
  ·exact List.mem_append_right _ (ih h n hn)
theorem vw9 (nm st:List UInt8) (k m:Int):(DataW.agg [.lit (.string nm),.agg [.lit (.int .i64 k),.lit (.int .i64 m),.lit (.string st)]]:DataW H).weights Tryz.prog 28=[nm.length,st.length]:=by
 rw [DataW.weights,Tryz.underlying28]
 simp only [List.map,DataW.weightsEach,DataW.weights,Tryz.underlying26]
 rfl
theorem vn4 {W:World} {fuel:Nat} {cs:List Value} {d:DataW H} {pl:List MemPlace} (ht:DataW.trod enc Tryz.prog W 0 (fun _=>true) true fuel 29 cs=some (d,pl))
  (hw:∀n∈d.weights Tryz.prog 29,n≤reachBytes):∃v ps,cs=[v]∧EvIn W v ps∧EvGood ps:=by
 rcases open_slice Tryz.underlying29 ht with ⟨hc,hx⟩|⟨a,len0,cap0,m,n,D,Pl,hc,_,hl,hm,hmm,hx,hall⟩
 ·exact ⟨_,[],hc,.inl ⟨rfl,none,0,rfl⟩,⟨(fun p hp=>by cases hp),(fun p hp=>by cases hp),Nat.zero_le _⟩⟩
 ·simp only [if_true] at hmm
  subst hmm
  simp only [Prod.mk.injEq] at hx
  obtain ⟨rfl,rfl⟩:=hx
  refine ⟨.slice (some a) len0 m, ?_⟩
  suffices hgoal:∃ps,EvIn W (.slice (some a) len0 m) ps∧EvGood ps by
   obtain ⟨ps,h1,h2⟩:=hgoal
   exact ⟨ps,hc,h1,h2⟩
  rw [vr7] at hall
  have each:∀i,i<len0→∃p:Pr,(W.cell? (a.add (i * 4))=some (.string (BS p.name))∧W.cell? (a.add (i * 4+1))=some (.int .i64 p.val.kind)∧W.cell? (a.add (i * 4+2))=some (.int .i64 p.val.num)∧W.cell? (a.add (i * 4+3))=some (.string (BS p.val.str)))∧Rng p.val.num ∧
    D i=.agg [.lit (.string p.name),.agg [.lit (.int .i64 p.val.kind),.lit (.int .i64 p.val.num),.lit (.string p.val.str)]]:=by
   intro i hi
   obtain ⟨cs',h1,h2⟩:=hall i (by omega)
   obtain ⟨nm,st,k,mm,rfl,hD,hr⟩:=open_prop h2
   simp only [Prod.mk.injEq] at hD
   obtain ⟨_,_,hcell⟩:=World.cells?_some h1
   have c0:=hcell 0 (by decide)
   have c1:=hcell 1 (by decide)
   have c2:=hcell 2 (by decide)
   have c3:=hcell 3 (by decide)
   rw [add_add] at c0 c1 c2 c3
   exact ⟨⟨nm.data.toList,⟨k,mm,st.data.toList⟩⟩,⟨c0,c1,c2,c3⟩,hr,hD.1⟩
  have inh:Inhabited Pr:=⟨⟨[],nV⟩⟩
  obtain ⟨f,hf⟩:=choose_lt each
  have hget:∀(k:Nat) (p:Pr),((List.range len0).map f)[k]?=some p→k<len0∧p=f k:=by
   intro k p hk
   rw [List.getElem?_map] at hk
   cases hr:(List.range len0)[k]? with
   | none=>rw [hr] at hk;cases hk
   | some j=>
    rw [hr] at hk
    obtain ⟨h1,h2⟩:=List.getElem?_eq_some_iff.1 hr
    rw [List.length_range] at h1
    rw [List.getElem_range] at h2
    subst h2
    exact ⟨h1,by simpa using hk.symm⟩
  have hlen:((List.range len0).map f).length=len0:=by rw [List.length_map,List.length_range]
  have hmem:∀p∈(List.range len0).map f,∃k,k<len0∧p=f k:=by
   intro p hp
   obtain ⟨k,hk⟩:=List.getElem?_of_mem hp
   exact ⟨k,hget k p hk⟩
  have hwt:=hw
  rw [DataW.weights,Tryz.underlying29] at hwt
  simp only [List.mem_cons,List.mem_append] at hwt
  refine ⟨(List.range len0).map f, ?_,⟨?_, ?_, ?_⟩⟩
  ·cases len0 with
   | zero=>exact .inl ⟨rfl,some a,_,rfl⟩
   | succ l=>
    right
    obtain ⟨b,off,spot⟩:=a
    have hs:spot=none:=by
     have:=World.cell?_spot (hf 0 (by omega)).1.1
     simpa [Addr.add] using this
    subst hs
    have hadd:∀j,(⟨b,off,none⟩:Addr).add j=⟨b,off+j,none⟩:=by intro j;simp [Addr.add]
    refine ⟨b,off,_,by rw [hlen],by rw [hlen];exact hl, ?_, ?_⟩
    ·intro k p hk
     obtain ⟨hk1,rfl⟩:=hget k p hk
     obtain ⟨⟨c0,c1,c2,c3⟩,_,_⟩:=hf k hk1
     rw [hadd] at c0 c1 c2 c3
     exact ⟨c0,c1,c2,c3⟩
    ·have:=(hf 0 (by omega)).1.1
     rw [hadd] at this
     exact block_lt_of_cell this
  ·intro p hp
   obtain ⟨k,hk,rfl⟩:=hmem p hp
   have hD:=(hf k hk).2.2
   have hin:D k∈(List.range len0).map D:=List.mem_map.2 ⟨k,List.mem_range.2 hk,rfl⟩
   have h2:=fun n hn=>hwt n (.inr (.inl (qy0 hin n hn)))
   rw [hD,vw9] at h2
   have e1:=h2 _ (by simp:(f k).name.length∈[(f k).name.length,(f k).val.str.length])
   have e2:=h2 _ (by simp:(f k).val.str.length∈[(f k).name.length,(f k).val.str.length])
   unfold reachBytes at e1 e2
   exact ⟨by omega,by omega⟩
  ·intro p hp
   obtain ⟨k,hk,rfl⟩:=hmem p hp
   exact (hf k hk).2.1
  ·have:=hwt _ (.inl rfl)
   rw [vr6,List.length_map,List.length_range] at this
   rw [hlen]
   unfold reachBytes at this
   omega
end
end
section
open Go.ChangeShapes Go.WideShapes Go.ChangeAt Go.RowKit Go.Deep
structure Ox where
 kind:Int
 n:Int
 id:Int
 text:List UInt8
 la:Option Addr
 lc:Nat
 ts:List (List UInt8)
 ev:Value
 ps:List Pr
def TxIn (W:World) (a:Option Addr) (ts:List (List UInt8)):Prop:=
 ∀(k:Nat) (s:List UInt8),ts[k]?=some s→s.length≤140737488355328∧∃sb so,a=some ⟨sb,so,none⟩∧sb<W.heap.size∧W.cell? ⟨sb,so+k,none⟩=some (.string (BS s))
structure OxOk (W:World) (x:Ox):Prop where
 text:x.text.length≤140737488355328
 kind:Rng x.kind
 n:Rng x.n
 id:Rng x.id
 tx:TxIn W x.la x.ts
 tl:16 * x.ts.length≤140737488355328
 tc:x.ts.length≤x.lc
 ev:EvIn W x.ev x.ps
 good:EvGood x.ps
 el:48 * x.ps.length≤140737488355328
theorem TxIn.below {W W':World} {a:Option Addr} {ts:List (List UInt8)} (h:TxIn W a ts) (hb:Below W.heap.size W W'):TxIn W' a ts:=fun k s hs=>by
 obtain ⟨h1,sb,so,h2,h3,h4⟩:=h k s hs
 exact ⟨h1,sb,so,h2,Nat.lt_of_lt_of_le h3 hb.size,((qa9 hb).1 _ _ h3).trans h4⟩
theorem OxOk.below {W W':World} {x:Ox} (h:OxOk W x) (hb:Below W.heap.size W W'):OxOk W' x:=⟨h.text,h.kind,h.n,h.id,h.tx.below hb,h.tl,h.tc,h.ev.below hb,h.good,h.el⟩
def vg5 (x:Ox):List Value:=[.int .i64 x.kind,.int .i64 x.n,.int .i64 x.id,.string (BS x.text),.slice x.la x.ts.length x.lc,x.ev]
def oxV (x:Ox):Value:=.agg #[.int .i64 x.kind,.int .i64 x.n,.int .i64 x.id,.string (BS x.text),.slice x.la x.ts.length x.lc,x.ev]
def OpsAt (W:World) (v:Value) (l:List Ox):Prop:=
 ∃a cap,v=.slice a l.length cap∧l.length≤cap∧l.length≤140737488355328∧∀(i:Nat) (x:Ox),l[i]?=some x→OxOk W x∧∃b off,a=some ⟨b,off,none⟩∧b<W.heap.size∧∀k,k<6→W.cell? ⟨b,off+i * 6+k,none⟩=(vg5 x)[k]?
theorem cellsOx:Tryz.prog.cellsOf 64=6:=by kernel_rfl
theorem cellsEvL:Tryz.prog.cellsOf 29=1:=by kernel_rfl
theorem cellsTx:Tryz.prog.cellsOf 62=1:=by kernel_rfl
theorem bytesOx:Tryz.prog.bytesOf 64=88:=by kernel_rfl
theorem bytesStr:Tryz.prog.bytesOf 9=16:=by kernel_rfl
section
variable {H:Type} {enc:TypeId×Value→H}
theorem vw4 {P:Program} {w:World} {base:Nat} {spare:Nat→Bool} {held:Bool} {t:TypeId} {f0 f1 f2 f3 f4 f5:Field} {fuel:Nat} {cs:List Value} {x:DataW H×List MemPlace} (ht:P.underlying t=some (.struct #[f0,f1,f2,f3,f4,f5])) (h:DataW.trod enc P w base spare held fuel t cs=some x) :
  ∃y0 y1 y2 y3 y4 y5 n,x.1=.agg [y0.1,y1.1,y2.1,y3.1,y4.1,y5.1]∧cs.length=P.cellsOf t∧DataW.trod enc P w base spare held n f0.type ((cs.drop f0.offset).take (P.cellsOf f0.type))=some y0 ∧
   DataW.trod enc P w base spare held n f1.type ((cs.drop f1.offset).take (P.cellsOf f1.type))=some y1∧DataW.trod enc P w base spare held n f2.type ((cs.drop f2.offset).take (P.cellsOf f2.type))=some y2 ∧
   DataW.trod enc P w base spare held n f3.type ((cs.drop f3.offset).take (P.cellsOf f3.type))=some y3∧DataW.trod enc P w base spare held n f4.type ((cs.drop f4.offset).take (P.cellsOf f4.type))=some y4 ∧
   DataW.trod enc P w base spare held n f5.type ((cs.drop f5.offset).take (P.cellsOf f5.type))=some y5:=by
 obtain ⟨xs,n,_,rfl,hl,hlen,hf⟩:=DataW.trod_struct ht h
 match xs,hlen with
 | [y0,y1,y2,y3,y4,y5],_=>exact ⟨y0,y1,y2,y3,y4,y5,n,by simp,hl,by simpa using hf 0 f0 rfl,by simpa using hf 1 f1 rfl,by simpa using hf 2 f2 rfl,by simpa using hf 3 f3 rfl,by simpa using hf 4 f4 rfl,by simpa using hf 5 f5 rfl⟩
theorem vn5 {W:World} {fuel:Nat} {cs:List Value} {d:DataW H} {pl:List MemPlace} (ht:DataW.trod enc Tryz.prog W 0 (fun _=>true) true fuel 62 cs=some (d,pl))
  (hw:∀n∈d.weights Tryz.prog 62,n≤reachBytes):∃a ts c,cs=[.slice a ts.length c]∧TxIn W a ts∧16 * ts.length≤140737488355328∧ts.length≤c:=by
 rcases open_slice Tryz.underlying62 ht with ⟨hc,hx⟩|⟨a,len0,cap0,m,n,D,Pl,hc,_,hl,hm,hmm,hx,hall⟩
 ·exact ⟨none,[],0,hc,(fun k s h=>by simp at h),Nat.zero_le _,Nat.zero_le _⟩
 ·simp only [if_true] at hmm
  subst hmm
  simp only [Prod.mk.injEq] at hx
  obtain ⟨rfl,rfl⟩:=hx
  rw [vd6] at hall
  have hwt:=hw
  rw [DataW.weights,Tryz.underlying62] at hwt
  simp only [List.mem_cons,List.mem_append] at hwt
  have each:∀i,i<len0→∃s:List UInt8,s.length≤140737488355328∧W.cell? (a.add i)=some (.string (BS s)):=by
   intro i hi
   obtain ⟨cs',h1,h2⟩:=hall i (by omega)
   obtain ⟨st,h3,h4,_⟩:=DataW.trod_string Tryz.underlying9 h2
   have hin:D i∈(List.range len0).map D:=List.mem_map.2 ⟨i,List.mem_range.2 hi,rfl⟩
   have hD:D i=.lit (.string st.data.toList):=by simpa using congrArg Prod.fst h4
   have hwl:st.data.toList.length≤reachBytes:=hwt _ (.inr (.inl (qy0 hin _ (by rw [hD];simp [DataW.weights]))))
   obtain ⟨_,_,hcell⟩:=World.cells?_some h1
   subst h3
   have c0:=hcell 0 (by decide)
   rw [add_add] at c0
   unfold reachBytes at hwl
   exact ⟨st.data.toList,by omega,by rw [BS_of];simpa using c0⟩
  obtain ⟨f,hf⟩:=choose_lt each
  have hlen:((List.range len0).map f).length=len0:=by rw [List.length_map,List.length_range]
  refine ⟨some a,(List.range len0).map f,_,by rw [hlen];exact hc,fun k s hk=>?_, ?_,by rw [hlen];exact hl⟩
  ·rw [List.getElem?_map] at hk
   cases hr:(List.range len0)[k]? with
   | none=>rw [hr] at hk;cases hk
   | some j=>
    rw [hr] at hk
    obtain ⟨h1,h2⟩:=List.getElem?_eq_some_iff.1 hr
    rw [List.length_range] at h1
    rw [List.getElem_range] at h2
    subst h2
    obtain rfl:f k=s:=by simpa using hk
    obtain ⟨q1,q2⟩:=hf k h1
    obtain ⟨b,off,spot⟩:=a
    have hs:spot=none:=by
     have:=World.cell?_spot (hf 0 (by omega)).2
     simpa [Addr.add] using this
    subst hs
    have hadd:(⟨b,off,none⟩:Addr).add k=⟨b,off+k,none⟩:=by simp [Addr.add]
    rw [hadd] at q2
    exact ⟨q1,b,off,rfl,block_lt_of_cell q2,q2⟩
  ·have:=hwt _ (.inl rfl)
   rw [bytesStr,List.length_map,List.length_range] at this
   rw [hlen]
   unfold reachBytes at this
   omega
theorem event_len {W:World} {fuel:Nat} {a:Option Addr} {n c:Nat} {d:DataW H} {pl:List MemPlace} (ht:DataW.trod enc Tryz.prog W 0 (fun _=>true) true fuel 29 [.slice a n c]=some (d,pl))
  (hw:∀n∈d.weights Tryz.prog 29,n≤reachBytes):48 * n≤140737488355328:=by
 rcases open_slice Tryz.underlying29 ht with ⟨hc,hx⟩|⟨a',len0,cap0,m,n',D,Pl,hc,_,hl,hm,hmm,hx,hall⟩
 ·simp at hc
  omega
 ·simp at hc
  obtain ⟨rfl,rfl,rfl⟩:=hc
  simp only [if_true] at hmm
  subst hmm
  simp only [Prod.mk.injEq] at hx
  obtain ⟨rfl,rfl⟩:=hx
  have hwt:=hw
  rw [DataW.weights,Tryz.underlying29] at hwt
  simp only [List.mem_cons,List.mem_append] at hwt
  have:=hwt _ (.inl rfl)
  rw [vr6,List.length_map,List.length_range] at this
  unfold reachBytes at this
  omega
theorem jp1 (tx:List UInt8) (k m i:Int) (dl dv:DataW H):(DataW.agg [.lit (.int .i64 k),.lit (.int .i64 m),.lit (.int .i64 i),.lit (.string tx),dl,dv]:DataW H).weights Tryz.prog 64=tx.length::(dl.weights Tryz.prog 62++dv.weights Tryz.prog 29):=by
 rw [DataW.weights,Tryz.underlying64]
 simp only [List.map,DataW.weightsEach,DataW.weights]
 simp
theorem EvIn.len {W:World} {a:Option Addr} {n c:Nat} {ps:List Pr} (h:EvIn W (.slice a n c) ps):ps.length=n:=by
 rcases h with ⟨rfl,a',cap,e⟩|⟨b,off,cap,e,_⟩
 ·injection e with _ e _
  exact e.symm
 ·injection e with _ e _
  exact e.symm
theorem open_op {W:World} {n:Nat} {cs:List Value} {d:DataW H} {pl:List MemPlace} (h:DataW.trod enc Tryz.prog W 0 (fun _=>true) true n 64 cs=some (d,pl)) (hw:∀n∈d.weights Tryz.prog 64,n≤reachBytes) :
  ∃x:Ox,cs=vg5 x∧OxOk W x:=by
 obtain ⟨y0,y1,y2,y3,y4,y5,n1,hx,hl,t0,t1,t2,t3,t4,t5⟩:=vw4 Tryz.underlying64 h
 rw [cellsOx] at hl
 match cs,hl with
 | [c0,c1,c2,c3,c4,c5],_=>
  simp only [jd3,vd6,cellsEvL,cellsTx,List.drop,List.take] at t0 t1 t2 t3 t4 t5
  obtain ⟨k,h0,rfl,wk⟩:=DataW.trod_int Tryz.underlying3 t0
  obtain ⟨m,h1,rfl,wm⟩:=DataW.trod_int Tryz.underlying3 t1
  obtain ⟨i,h2,rfl,wi⟩:=DataW.trod_int Tryz.underlying3 t2
  obtain ⟨tx,h3,rfl,_⟩:=DataW.trod_string Tryz.underlying9 t3
  obtain ⟨d4,p4⟩:=y4
  obtain ⟨d5,p5⟩:=y5
  simp only at hx
  subst hx
  rw [jp1] at hw
  have w1:=hw _ (List.mem_cons_self ..)
  obtain ⟨a,ts,c,hv4,htx,htl,htc⟩:=vn5 t4 fun m hm=>hw m (List.mem_cons_of_mem _ (List.mem_append_left _ hm))
  obtain ⟨v,ps,hv,he,hg⟩:=vn4 t5 fun m hm=>hw m (List.mem_cons_of_mem _ (List.mem_append_right _ hm))
  simp only [List.cons.injEq,and_true] at h0 h1 h2 h3 hv4 hv
  subst h0 h1 h2 h3 hv4 hv
  unfold reachBytes at w1
  obtain ⟨ea,en,ec,rfl⟩:=he.slice
  have hel:=event_len t5 fun m hm=>hw m (List.mem_cons_of_mem _ (List.mem_append_right _ hm))
  exact ⟨⟨k,m,i,tx.data.toList,a,c,ts,.slice ea en ec,ps⟩,rfl,⟨by show tx.data.toList.length≤_;omega,jf9 wk,jf9 wm,jf9 wi,htx,htl,htc,he,hg,by rw [he.len];exact hel⟩⟩
theorem open_ops {W:World} {base:Nat} {v:Value} {d:DataW H} {pl:List MemPlace} (hval:Value.okWide Tryz.prog W .any base 22 v) (h:DataW.Trod enc Tryz.prog W 0 (fun _=>true) true 22 v d pl)
  (hw:∀n∈d.weights Tryz.prog 22,n≤reachBytes):∃l,OpsAt W v l:=by
 obtain ⟨fuel,ht⟩:=h
 obtain ⟨a0,len0,cap0,rfl⟩:=okWide_slice Tryz.underlying22 hval
 rcases open_slice Tryz.underlying22 ht with ⟨hc,hx⟩|⟨a,len,cap,m,n,D,Pl,hc,_,hl,hm,hmm,hx,hall⟩
 ·simp [Value.cells] at hc
  obtain ⟨rfl,rfl,rfl⟩:=hc
  exact ⟨[],none,0,rfl,Nat.zero_le _,Nat.zero_le _,fun i x hi=>by simp at hi⟩
 ·simp [Value.cells] at hc
  obtain ⟨rfl,rfl,rfl⟩:=hc
  simp only [if_true] at hmm
  subst hmm
  simp only [Prod.mk.injEq] at hx
  obtain ⟨rfl,rfl⟩:=hx
  rw [cellsOx] at hall
  have hwt:=hw
  rw [DataW.weights,Tryz.underlying22] at hwt
  simp only [List.mem_cons,List.mem_append] at hwt
  have each:∀i,i<len0→∃x:Ox,OxOk W x∧∀k,k<6→W.cell? (a.add (i * 6+k))=(vg5 x)[k]?:=by
   intro i hi
   obtain ⟨cs',h1,h2⟩:=hall i (by omega)
   have hin:D i∈(List.range len0).map D:=List.mem_map.2 ⟨i,List.mem_range.2 hi,rfl⟩
   obtain ⟨x,rfl,ok⟩:=open_op h2 fun n hn=>hwt n (.inr (.inl (qy0 hin n hn)))
   obtain ⟨_,_,hcell⟩:=World.cells?_some h1
   refine ⟨x,ok,fun k hk=>?_⟩
   have c:=hcell k hk
   rw [add_add] at c
   rw [c]
  have inh:Inhabited Ox:=⟨⟨0,0,0,[],none,0,[],.slice none 0 0,[]⟩⟩
  obtain ⟨f,hf⟩:=choose_lt each
  have hlen:((List.range len0).map f).length=len0:=by rw [List.length_map,List.length_range]
  have hget:∀(k:Nat) (p:Ox),((List.range len0).map f)[k]?=some p→k<len0∧p=f k:=by
   intro k p hk
   rw [List.getElem?_map] at hk
   cases hr:(List.range len0)[k]? with
   | none=>rw [hr] at hk;cases hk
   | some j=>
    rw [hr] at hk
    obtain ⟨h1,h2⟩:=List.getElem?_eq_some_iff.1 hr
    rw [List.length_range] at h1
    rw [List.getElem_range] at h2
    subst h2
    exact ⟨h1,by simpa using hk.symm⟩
  refine ⟨(List.range len0).map f,some a,_,by rw [hlen],by rw [hlen];exact hl, ?_,fun i x hi=>?_⟩
  ·have:=hwt _ (.inl rfl)
   rw [bytesOx,List.length_map,List.length_range] at this
   rw [hlen]
   unfold reachBytes at this
   omega
  ·obtain ⟨h1,rfl⟩:=hget i x hi
   obtain ⟨ok,hc⟩:=hf i h1
   obtain ⟨b,off,spot⟩:=a
   have hs:spot=none:=by
    have:=(hf 0 (by omega)).2 0 (by omega)
    have:=World.cell?_spot this
    simpa [Addr.add] using this
   subst hs
   have hadd:∀j,(⟨b,off,none⟩:Addr).add j=⟨b,off+j,none⟩:=by intro j;simp [Addr.add]
   have hc':∀k,k<6→W.cell? ⟨b,off+i * 6+k,none⟩=(vg5 (f i))[k]?:=fun k hk=>by
    have:=hc k hk
    rw [hadd,←Nat.add_assoc] at this
    exact this
   exact ⟨ok,b,off,rfl,block_lt_of_cell (hc' 0 (by omega)),hc'⟩
end
end
section
theorem upto_any (le mo:Int) (WI:World→Prop) (w:World) (v:Value) (l:List Ox) (hl:OpsAt w v l) (h0:WI (w.alloc (.cells #[.slice none 0 0,.slice none 0 0] 61))) (hbel:∀W,WI W→Below w.heap.size w W) (hkeep:∀W W',WI W→Below W.heap.size W W'→WI W')
  (hstep:∀W x,WI W→OxOk W x→((le≤x.kind∧x.kind≤mo)∨(5≤x.kind∧5≤mo))→Calls Tryz.prog 33 #[.pointer (some ⟨w.heap.size,0,none⟩),oxV x] W fun e W'=>e=.returned (.bool true)∧WI W')
  (hlooks:∀W,WI W→Calls Tryz.prog 34 #[.pointer (some ⟨w.heap.size,0,none⟩)] W fun e W'=>e=.returned (.bool true)∧WI W') :
  Calls Tryz.prog 15 #[v,.int .i64 le,.int .i64 mo] w fun e w'=>e=.returned (.int .i64 (-1))∧WI w':=by
 obtain ⟨a,cap,rfl,hcap,hbig,hops⟩:=hl
 obtain ⟨n,hn⟩:∃n,l.length=n:=⟨_,rfl⟩
 rw [hn] at hcap hbig ⊢
 have HN:=j4 hn
 have HO:=j4 hops
 have H0:=j4 h0
 have HBL:=j4 hbel
 have HKP:=j4 hkeep
 have HST:=j4 hstep
 have LKS:=j4 hlooks
 clear hn hops h0 hbel hkeep hstep hlooks
 go_enter Tryz.func15,Tryz.ntmps15
 go_wp2_with fail
 go_loopw [8] (fun i wr=>∃k:Nat,k≤n∧i=.int .i64 k∧Hid (WI wr)) (fun i _=>n - (intOf i).toNat)
 case atStart=>exact ⟨0,Nat.zero_le _,rfl,H0⟩
 case round=>
  clear H0
  obtain ⟨k,hk,rfl,HW0⟩:=hrel
  by_cases hlt:k<n
  ·obtain ⟨x,hx⟩:∃x,l[k]?=some x:=⟨_,List.getElem?_eq_getElem (by have:=q9 HN;omega)⟩
   obtain ⟨ok,b,off,rfl,hb,hc⟩:=q9 HO k x hx
   have hbe:=q9 HBL _ (q9 HW0)
   have hbr:b<wr.heap.size:=by have:=hbe.size;omega
   have okr:=ok.below hbe
   have hcr:∀j,j<6→wr.cell? ⟨b,off+k * 6+j,none⟩=(vg5 x)[j]?:=fun j hj=>((qa9 hbe).1 _ _ hb).trans (hc j hj)
   have hsl:∃ea en ec,x.ev=.slice ea en ec:=ok.ev.slice
   obtain ⟨kind,nn,id,text,la,lc,ts,ev,ps⟩:=x
   obtain ⟨ea,en,ec,hev⟩:=hsl
   simp only at hev
   subst hev
   obtain ⟨lt,hlt2⟩:∃t,ts.length=t:=⟨_,rfl⟩
   have c0:wr.cell? ⟨b,off+k * 6,none⟩=some (.int .i64 kind):=hcr 0 (by omega)
   have c1:wr.cell? ⟨b,off+k * 6+1,none⟩=some (.int .i64 nn):=hcr 1 (by omega)
   have c2:wr.cell? ⟨b,off+k * 6+2,none⟩=some (.int .i64 id):=hcr 2 (by omega)
   have c3:wr.cell? ⟨b,off+k * 6+3,none⟩=some (.string (BS text)):=hcr 3 (by omega)
   have c4:wr.cell? ⟨b,off+k * 6+4,none⟩=some (.slice la ts.length lc):=hcr 4 (by omega)
   have c5:wr.cell? ⟨b,off+k * 6+5,none⟩=some (.slice ea en ec):=hcr 5 (by omega)
   have hal:=(Below.refl wr.heap.size wr).alloc (Nat.le_refl _) (.cells #[.int .i64 kind,.int .i64 nn,.int .i64 id,.string (BS text),.slice la ts.length lc,.slice ea en ec] 64)
   have HW:=j4 (q9 HKP _ _ (q9 HW0) hal)
   have HOX:=j4 (okr.below hal)
   have STP:Hid (((le≤kind∧kind≤mo)∨(5≤kind∧5≤mo))→∀W,WI W→OxOk W ⟨kind,nn,id,text,la,lc,ts,.slice ea en ec,ps⟩→Calls Tryz.prog 33 #[.pointer (some ⟨w.heap.size,0,none⟩),.agg #[.int .i64 kind,.int .i64 nn,.int .i64 id,.string (BS text),.slice la ts.length lc,.slice ea en ec]] W fun e W'=>e=.returned (.bool true)∧WI W'):=j4 fun hh W h1 h2=>q9 HST W ⟨kind,nn,id,text,la,lc,ts,.slice ea en ec,ps⟩ h1 h2 hh
   rw [hlt2] at c4 HW HOX STP
   have hk0:(0:Int)≤(k:Int):=by omega
   have hk1:(k:Int)<(n:Int):=by omega
   have nb:¬b=wr.heap.size:=by omega
   clear hx ok hc hbe okr hcr hal HO HST HKP HBL hlt2
   rcases (show (le≤kind∧kind≤mo)∨(le≤kind∧¬kind≤mo)∨¬le≤kind by omega) with ⟨h1,h2⟩|⟨h1,h2⟩|h1
   ·have STP:=j4 (q9 STP (by omega))
    go_wp2_with (first|(go_at_call 33;refine (q9 STP _ (q9 HW) (q9 HOX)).mono ?_;rintro e w2 ⟨rfl,hw2⟩;have HW2:=j4 hw2;clear hw2)|(go_at_call 34;refine (q9 LKS _ (q9 HW2)).mono ?_;rintro e w3 ⟨rfl,hw3⟩;have HW3:=j4 hw3;clear hw3))
    go_roundw
    case rel=>exact ⟨k+1,by omega,by go_num,HW3⟩
    case measure=>simp [intOf];omega
   ·skip
    rcases (show kind<5∨(¬kind<5∧mo<5)∨(¬kind<5∧¬mo<5) by omega) with h3|⟨h3,h4⟩|⟨h3,h4⟩
    ·clear STP
     go_wp2_with fail
     go_roundw
     case rel=>exact ⟨k+1,by omega,by go_num,HW⟩
     case measure=>simp [intOf];omega
    ·clear STP
     go_wp2_with fail
     go_roundw
     case rel=>exact ⟨k+1,by omega,by go_num,HW⟩
     case measure=>simp [intOf];omega
    ·have STP:=j4 (q9 STP (by omega))
     go_wp2_with (first|(go_at_call 33;refine (q9 STP _ (q9 HW) (q9 HOX)).mono ?_;rintro e w2 ⟨rfl,hw2⟩;have HW2:=j4 hw2;clear hw2)|(go_at_call 34;refine (q9 LKS _ (q9 HW2)).mono ?_;rintro e w3 ⟨rfl,hw3⟩;have HW3:=j4 hw3;clear hw3))
     go_roundw
     case rel=>exact ⟨k+1,by omega,by go_num,HW3⟩
     case measure=>simp [intOf];omega
   ·skip
    rcases (show kind<5∨(¬kind<5∧mo<5)∨(¬kind<5∧¬mo<5) by omega) with h3|⟨h3,h4⟩|⟨h3,h4⟩
    ·clear STP
     go_wp2_with fail
     go_roundw
     case rel=>exact ⟨k+1,by omega,by go_num,HW⟩
     case measure=>simp [intOf];omega
    ·clear STP
     go_wp2_with fail
     go_roundw
     case rel=>exact ⟨k+1,by omega,by go_num,HW⟩
     case measure=>simp [intOf];omega
    ·have STP:=j4 (q9 STP (by omega))
     go_wp2_with (first|(go_at_call 33;refine (q9 STP _ (q9 HW) (q9 HOX)).mono ?_;rintro e w2 ⟨rfl,hw2⟩;have HW2:=j4 hw2;clear hw2)|(go_at_call 34;refine (q9 LKS _ (q9 HW2)).mono ?_;rintro e w3 ⟨rfl,hw3⟩;have HW3:=j4 hw3;clear hw3))
     go_roundw
     case rel=>exact ⟨k+1,by omega,by go_num,HW3⟩
     case measure=>simp [intOf];omega
  ·have hnk:¬(k:Int)<(n:Int):=by omega
   go_wp2_with fail
   go_ret
   exact ⟨rfl,q9 HW0⟩
end
section
open Go.RowKit Go.Shelf
attribute [local go_sem] Oper.semAt_some
def va4 (ts:List (List UInt8)) (k:Nat):List (List UInt8):=(List.range k).map fun j=>ts[j]?.getD []
theorem jd0 (ts:List (List UInt8)) (k:Nat):va4 ts (k+1)=va4 ts k++[ts[k]?.getD []]:=by simp [va4,List.range_succ]
theorem va5 (ts:List (List UInt8)) (k:Nat):(va4 ts k).length=k:=by simp [va4]
theorem jn6 (ts:List (List UInt8)):va4 ts ts.length=ts:=by
 apply List.ext_getElem
 ·simp [va4]
 ·intro i h1 h2
  simp [va4,h2]
theorem jn9 (n:Nat) (hn:1≤n) (l Bs n₀ b cap:Nat) (ts:List (List UInt8)) (hlen:ts.length≤1000) (hb:b<n₀) (J Jx:List (List UInt8)→World→Prop)
  (hY:∀pre x W,J pre W→pre.length<ts.length→YieldAt Fence.wide (n - 1) Tryz.prog l #[.string (BS x)] W fun e W'=>
   (e=.returned (.bool true)∧J (pre++[x]) W'∧Below n₀ W W')∨(e=.returned (.bool false)∧Jx (pre++[x]) W'))
  (W:World) (hBs:W.cell? ⟨Bs,0,none⟩=some (.slice (some ⟨b,0,none⟩) ts.length cap)) (hc:∀j,j<ts.length→W.cell? ⟨b,j,none⟩=some (.string (BS (ts[j]?.getD [])))) (h0:J [] W) :
  CallsIn Fence.wide n Tryz.prog 208 #[.func (.yield l) #[] #[],.pointer (some ⟨Bs,0,none⟩)] W fun e W'=>(∃v,e=.returned v) ∧
   ((∃ys,ys=ts∧J ys W')∨(∃pre,pre.length≤ts.length∧Jx pre W')):=by
 obtain ⟨len,hl⟩:∃len,ts.length=len:=⟨_,rfl⟩
 rw [hl] at hlen hY hBs hc
 have HL:=j4 hl
 clear hl
 refine callsIn_of_wp Tryz.func208 rfl trivial ?_ rfl
 simp only [Tryz.ntmps208,List.size_toArray,List.length_cons,List.length_nil,Nat.reduceAdd,Nat.reduceSub,Array.replicate_succ,Array.replicate_zero,List.push_toArray,List.append_toArray,List.nil_append,List.cons_append]
 gi_wp2
 gi_loopw [7] (fun i wr=>∃k:Nat,k≤len∧i=.int .i64 k∧J (va4 ts k) wr∧Below n₀ W wr)
  (fun i _=>len - (intOf i).toNat)
 case atStart=>exact ⟨0,Nat.zero_le _,rfl,h0,Below.refl _ _⟩
 case round=>
  obtain ⟨k,hk,rfl,hJs,hnx⟩:=hrel
  have hcx:k<len→wr.cell? ⟨b,k,none⟩=some (.string (BS (ts[k]?.getD []))):=fun h=>(hnx.cell (p:=⟨b,k,none⟩) hb).trans (hc k h)
  by_cases hlt:k<len
  ·obtain ⟨fn,tmps,assign,body,hy,hR⟩:=hY _ (ts[k]?.getD []) wr hJs (by rw [va5];exact hlt)
   have hcx':=hcx hlt
   gi_wp2
   refine hR.mono ?_
   rintro e W3 (⟨rfl,hJ3,hk3⟩|⟨rfl,hJx3⟩)
   ·gi_wp2
    go_roundw
    case rel=>exact ⟨k+1,by omega,by simp,by rw [jd0];exact hJ3,hnx.trans hk3⟩
    case measure=>simp [intOf];omega
   ·gi_wp2
    refine bodyPost_ret (results_none rfl _ _ _) rfl ?_
    exact ⟨⟨_,rfl⟩,.inr ⟨_,by rw [List.length_append,va5,q9 HL];simp;omega,hJx3⟩⟩
  ·obtain rfl:k=len:=by omega
   gi_wp2
   go_end0
   exact ⟨⟨_,rfl⟩,.inl ⟨_,by rw [←q9 HL,jn6],hJs⟩⟩
theorem vw8 (n:Nat) (hn:1≤n) (Bs n₀ b cap:Nat) (ts:List (List UInt8)) (hlen:ts.length≤1000) (hb:b<n₀) (w:World) (hBs:Bs<w.heap.size) (hn₀:n₀≤w.heap.size)
  (hc:w.cell? ⟨Bs,0,none⟩=some (.slice (some ⟨b,0,none⟩) ts.length cap)) (hcs:∀j,j<ts.length→w.cell? ⟨b,j,none⟩=some (.string (BS (ts[j]?.getD [])))) :
  SeqStopsK Fence.wide n Tryz.prog 208 #[.pointer (some ⟨Bs,0,none⟩)] (fun x:List UInt8=>#[Value.string (BS x)]) (Below n₀) (fun ys=>ys=ts) (fun pre=>pre.length≤ts.length) ts.length w:=fun l J Jx W hW _ _ hY h0=>
 jn9 n hn l Bs n₀ b cap ts hlen hb J Jx hY W ((hW.cell (p:=⟨Bs,0,none⟩) hBs).trans hc) (fun j hj=>((hW.mono hn₀).cell (p:=⟨b,j,none⟩) hb).trans (hcs j hj)) h0
theorem info_strg:(Tryz.prog.info? 9).map (fun i=>(i.zero,i.size,i.bytes))=some (some (.string ⟨#[]⟩),1,16):=by kernel_rfl
theorem vr2 (n:Nat) (hn:2≤n) (Bs b cap:Nat) (ts:List (List UInt8)) (hlen:ts.length≤1000) (w:World) (hb:b<w.heap.size) (hBs:Bs<w.heap.size)
  (hc:w.cell? ⟨Bs,0,none⟩=some (.slice (some ⟨b,0,none⟩) ts.length cap)) (hcs:∀j,j<ts.length→w.cell? ⟨b,j,none⟩=some (.string (BS (ts[j]?.getD [])))) :
  CallsIn Fence.wide n Tryz.prog 251 #[.slice none 0 0,.func (.func 208) #[] #[.pointer (some ⟨Bs,0,none⟩)]] w fun e w'=>∃v,e=.returned v∧w'.ownsRow w.heap.size 9 1 v ts.length (ts.map fun x=>.string (BS x))∧Below w.heap.size w w':=by
 have h1:1≤n:=by omega
 obtain ⟨i0,hi,hz0,hz1,hz2⟩:=info_parts info_strg
 refine callsIn_of_wp_marks Tryz.func251 rfl trivial ?_ rfl
 simp only [Tryz.ntmps251,List.size_toArray,List.length_cons,List.length_nil,Nat.reduceAdd,Nat.reduceSub,Array.replicate_succ,Array.replicate_zero,List.push_toArray,List.append_toArray,List.nil_append,List.cons_append]
 gi_wp2
 have bO:=Boxed.new w 62 (.slice none 0 0)
 have hB0:Below w.heap.size w (w.alloc (.cells #[.slice none 0 0] 62)):=(Below.refl _ w).alloc (Nat.le_refl _) _
 refine wpIn_rangeFunc_ownG rfl h1 (gf:=208) (lb:=#[.pointer (some ⟨Bs,0,none⟩)]) rfl trivial (enters_of Tryz.func208 (by kernel_rfl) rfl)
  (vw8 (n - 1) (by omega) Bs w.heap.size b cap ts hlen hb (w.alloc (.cells #[.slice none 0 0] 62)) (by simp;omega) (by simp) ((hB0.cell (p:=⟨Bs,0,none⟩) hBs).trans hc) (fun j hj=>(hB0.cell (p:=⟨b,j,none⟩) hb).trans (hcs j hj))) belowK_t (belowK_b (by simp)) (Below.refl _ _) (fun _=>rfl)
  (fun (pre:List (List UInt8)) W=>(∃v,Boxed W w.heap.size 62 v∧W.ownsRow w.heap.size 9 1 v pre.length (pre.map fun x=>.string (BS x))∧True)∧Below w.heap.size w W)
  (fun _ _ _=>False)
  (OwnFrom.and (Own.from (holdsRow_own w.heap.size w.heap.size 62 9 1 (fun (pre:List (List UInt8))=>pre.length) (fun (pre:List (List UInt8))=>pre.map fun x=>Value.string (BS x)) (fun _ _=>True)) _) (ownFrom_below (Nat.le_refl _) (by simp)))
  (fun _ _ _ _ _ hs _ _=>hs)
  ⟨⟨_,bO,World.ownsRow_nil _ _ _ _,trivial⟩,hB0⟩
  (fun x=>{ tmps:=#[.slice none 0 0,.func (.func 208) #[] #[.pointer (some ⟨Bs,0,none⟩)],.pointer (some ⟨w.heap.size,0,none⟩),undef,.slice none 0 0,.string (BS x),.func (.func 208) #[] #[.pointer (some ⟨Bs,0,none⟩)],.string (BS x),undef,undef,undef,undef,undef],defers:=[] }) ?assign ?body ?done ?stop
 case assign=>
  intro l x W K hK
  gi_wp2
  exact hK
 case body=>
  rintro l pre x W ⟨⟨v,hv,hrow,_⟩,hB⟩ hlt
  have hc:=hv.cell
  gi_wp2_with (gi_at_builtin;refine wpListIn_append_own _ rfl _ _ 62 rfl w.heap.size 9 i0 (.string ⟨#[]⟩) 1 16 Tryz.underlying62 hi hz0 hz1 hz2 rfl (by decide) _ _ _ rfl (hrow.alloc _) ⟨W.heap.size,0,none⟩ 1 1 [.string (BS x)] rfl rfl (cell_one_new _ _ _) (by simp [Value.oneCell']) (by unfold maxLen;omega) (by omega) (by have:=hB.size;simp;omega) ?_;intro v' w1 hown' hgrow _;obtain ⟨g',cap',rfl⟩:=ownsRow_succ hown';obtain ⟨hv1,hv2,hr2,hk2,hb2⟩:=hv.appended (by decide) hrow hB.size (Nat.le_refl _) hown' hgrow;have hc1:=hv1.cell;have hf1:=hv1.frozen)
  exact ⟨hk2.from _,hb2,⟨_,hv2,by simpa using hr2,trivial⟩,hB.trans hb2⟩
 case done=>
  rintro D ys W hD rfl ⟨⟨v,hv,hrow,_⟩,hB⟩ hK
  have hc:=hv.cell
  gi_wp2
  refine ⟨by simp,.inl ⟨_,_,rfl,run_takeDeferred hK, ?_⟩⟩
  exact ⟨_,results_tmp rfl _ _ _,v,rfl,ownsRow_putObj hrow _ hK rfl,hB.trans (belowK_b (w:=w) (Nat.le_refl _) W D _ _ (by simp at hD;omega) hK rfl rfl)⟩
 case stop=>
  rintro D c pre W _ _ h _
  exact h.elim
end
section
def appSem (ats:Array TypeId) (ty:TypeId) (args:Array Value):Sem Value:=Builtin.append_ ats ty args
theorem jd2 (ats:Array TypeId) (ty:TypeId) (args:Array Value):Builtin.append_ ats ty args=appSem ats ty args:=rfl
end
section
variable {P:Program}
theorem vg4 {w:World} {base:Nat} {e:TypeId} {size g n cap:Nat} {xs:List Value} (h:w.ownsRow base e size (.slice (some ⟨g,0,none⟩) n cap) n xs):base≤g∧n≤cap∧cap≤maxLen∧∃cur,w.heap[g]?=some (.cells cur e (0,0))∧cur.size=cap * size∧cur.toList.take (n * size)=xs:=by
 rcases h.2 with ⟨hv,_⟩|⟨g',cap',cur0,hv,hb,hh,hnc,hcm,hcs,hx⟩
 ·simp at hv
 ·simp at hv
  obtain ⟨rfl,rfl⟩:=hv
  exact ⟨hb,hnc,hcm,cur0,hh,hcs,hx⟩
end
section
attribute [local go_sem ↓] jd2
theorem row_forms {w:World} {base size n:Nat} {e:TypeId} {v:Value} {xs:List Value} (h:w.ownsRow base e size v n xs):(v=.slice none 0 0∧n=0)∨∃g cap,v=.slice (some ⟨g,0,none⟩) n cap:=by
 rcases h.2 with ⟨h1,h2⟩|⟨g,cap,cur,rfl,_⟩
 ·exact .inl ⟨h1,h2⟩
 ·exact .inr ⟨g,cap,rfl⟩
end
section
attribute [local go_sem ↓] jd2
def copySem (ats:Array TypeId) (ty:TypeId) (args:Array Value):Sem Value:=Builtin.copy_ ats ty args
theorem copy_fold (ats:Array TypeId) (ty:TypeId) (args:Array Value):Builtin.copy_ ats ty args=copySem ats ty args:=rfl
attribute [local go_sem ↓] copy_fold
theorem addr_off (g o j:Nat):(⟨g,o,none⟩:Addr).add j=⟨g,o+j,none⟩:=by unfold Addr.add;split<;>simp_all
end
section
open Go.ChangeShapes Go.WideShapes Go.RowKit
theorem powNamed : Tryz.prog.globalNamed "internal/strconv.uint64pow10" = some 1 := by kernel_rfl
theorem max_ok {W:World} (h:W.ShapedOpen Tryz.prog):4<W.heap.size∧∃m,W.cell? ⟨4,0,none⟩=some (.int .i64 m):=by
 obtain ⟨m,hm⟩:=cell_of_shapedOpen_int (g:=4) (zero:=#[.int .i64 0]) (t:=3) h (of_decide_eq_true (by kernel_rfl)) (by kernel_rfl) rfl (by kernel_rfl) (by kernel_rfl) Tryz.underlying3
 exact ⟨block_lt_of_cell hm,m,hm⟩
theorem powType:(Tryz.prog.globals[1]?).map (·.type)=some 343:=by kernel_rfl
theorem cellsPow:Tryz.prog.cellsOf 343=20:=by kernel_rfl
theorem cellsU64:Tryz.prog.cellsOf 317=1:=by kernel_rfl
theorem powLaid:(Rows.laid_internal_strconv_uint64pow10:DataW Unit)=Lib.tabData .u64 Lib.pow10Tab:=by kernel_rfl
theorem pow_ok {W : World} {l : List (String × DataW Unit)} (hm : ("internal/strconv.uint64pow10", Rows.laid_internal_strconv_uint64pow10) ∈ l) (h : laidMet Tryz.prog l W) : Lib.TabIs Tryz.prog W "internal/strconv.uint64pow10" .u64 Lib.pow10Tab := by
 obtain ⟨g,t,cs,fuel,p,h1,h2,h3,h4⟩:=Lib.laidMet.reads h hm
 obtain rfl:1=g:=Option.some.inj (powNamed.symm.trans h1)
 obtain rfl:343=t:=Option.some.inj (powType.symm.trans h2)
 rw [powLaid] at h4
 unfold Lib.TabIs
 rw [h3,←Lib.cells_of_tab Tryz.underlying343 Tryz.underlying317 cellsU64 cellsPow h4]
end
end Go.Proofs.YtfkcaldjphakpaaGreatDoor
