/- Selectors in parentheses, with AND, OR and NOT. -/
import Derived.Test.YtfkcaldjphakpaaGreatDoorM21
import Derived.Test.YtfkcaldjphakpaaGreatDoorM24
import Derived.RegionTactic
import Derived.Deep.OwnRows
import Derived.ProofKit
import Derived.Deep.Slices
import Derived.Deep.Strs
import Derived.SizedLaws
import Derived.WideKeyArgs
import Derived.Laws.Rows
import Derived.Lib.SmallJoins
set_option maxHeartbeats 16000000
set_option maxRecDepth 100000
namespace Go.Proofs.YtfkcaldjphakpaaGreatDoor
open Go.RowKit Go.Proofs.Tryz
section
theorem vc2{r:List UInt8}{L:List Tk}(h:Lx r L):Lx (41::r) (j7 27::L):=by
 have hm:qc0 (41::r) 0=j7 27/\qd5 (41::r) 0=1:=by cases r<;>exact⟨rfl,rfl⟩
 exact .cons hm.1 (show(27:Int)≠0 by decide) (by rw[hm.2];exact h)
theorem vv4{r:List UInt8}{L:List Tk}(h:Lx r L):Lx (40::r) (j7 26::L):=by
 have hm:qc0 (40::r) 0=j7 26/\qd5 (40::r) 0=1:=by cases r<;>exact⟨rfl,rfl⟩
 exact .cons hm.1 (show(26:Int)≠0 by decide) (by rw[hm.2];exact h)
theorem lx_and{r:List UInt8}{L:List Tk}(h:Lx r L):Lx (65::78::68::32::r) (j7 5::L):=.cons (k:=j7 5) rfl (show(5:Int)≠0 by decide) (qk9 h)
theorem lx_or{r:List UInt8}{L:List Tk}(h:Lx r L):Lx (79::82::32::r) (j7 6::L):=.cons (k:=j7 6) rfl (show(6:Int)≠0 by decide) (qk9 h)
end
section
def En(r:TRes):Prop:=∀en,r=.err en->en=2\/en=3
def Nz(o:Nat)(f:TS->TRes):Prop:=∀ts,ts.op=o->En (f ts)/\∀t ts',f ts=.ok t ts'->ts'.op=o
theorem En.ok{t:Ast}{ts:TS}:En (.ok t ts):=λ_ h=>by cases h
theorem En.two:En (.err 2):=λ_ h=>by injection h with h;exact .inl h.symm
theorem En.three:En (.err 3):=λ_ h=>by injection h with h;exact .inr h.symm
theorem Nz.join{o:Nat}{f:TS->TRes}(h:Nz o f)(ts:TS)(l:Ast)(ho:ts.op=o):En (vh7 f ts l)/\∀t ts',vh7 f ts l=.ok t ts'->ts'.op=o:=by
 obtain⟨h1,h2⟩:=h ts.next ho;unfold vh7
 cases hf:f ts.next with
 | err en=>rw[hf]at h1;exact⟨h1,λ_ _ h=>by cases h⟩
 | ok t ts'=>exact⟨En.ok,λ_ _ h=>by injection h with _ e;rw[←e];exact h2 _ _ hf⟩
theorem Nz.loop{o:Nat}{f:TS->TRes}(h:Nz o f)(ks:List Int):∀n l ts,ts.op=o->En (vd8 f ks n l ts)/\∀t ts',vd8 f ks n l ts=.ok t ts'->ts'.op=o:=by
 intro n
 induction n with
 | zero=>intro l ts ho;rw[vd8];exact⟨En.ok,λ_ _ h=>by injection h with _ e;rw[←e];exact ho⟩
 | succ n ih=>
  intro l ts ho;rw[vd8]
  split
  ·obtain⟨h1,h2⟩:=h.join ts l ho
   cases hf:vh7 f ts l with
   | err en=>rw[hf]at h1;exact⟨h1,λ_ _ h=>by cases h⟩
   | ok t ts'=>exact ih t ts' (h2 _ _ hf)
  ·exact⟨En.ok,λ_ _ h=>by injection h with _ e;rw[←e];exact ho⟩
theorem Nz.row{o:Nat}{f:TS->TRes}(h:Nz o f)(ks:List Int):Nz o (jt0 f ks):=by
 intro ts ho;obtain⟨h1,h2⟩:=h ts ho;unfold jt0
 cases hf:f ts with
 | err en=>rw[hf]at h1;exact⟨h1,λ_ _ h=>by cases h⟩
 | ok t ts'=>exact h.loop ks _ t ts' (h2 _ _ hf)
theorem Nz.sign{o:Nat}(hk:o<=12){f:TS->TRes}(h:o<12->Nz (o+1) f)(n:Int)(ts:TS)(ho:ts.op=o):En (vh8 f n ts)/\∀t ts',vh8 f n ts=.ok t ts'->ts'.op=o:=by
 unfold vh8
 by_cases F9:ts.op=12
 ·rw[if_pos F9];exact⟨En.three,λ_ _ h=>by cases h⟩
 ·rw[if_neg F9]
  obtain⟨h1,h2⟩:=h (by omega) (tIn ts) (by show ts.op+1=_;omega)
  cases hf:f (tIn ts) with
  | err en=>rw[hf]at h1;exact⟨h1,λ_ _ h=>by cases h⟩
  | ok t ts'=>exact⟨En.ok,λ_ _ h=>by injection h with _ e;rw[←e];exact ho⟩
theorem Nz.group{o:Nat}(hk:o<=12){f:TS->TRes}(h:o<12->Nz (o+1) f)(ts:TS)(ho:ts.op=o):En (qz6 f ts)/\∀t ts',qz6 f ts=.ok t ts'->ts'.op=o:=by
 unfold qz6
 by_cases F9:ts.op=12
 ·rw[if_pos F9];exact⟨En.three,λ_ _ h=>by cases h⟩
 ·rw[if_neg F9]
  obtain⟨h1,h2⟩:=h (by omega) (tIn ts) (by show ts.op+1=_;omega)
  cases hf:f (tIn ts) with
  | err en=>rw[hf]at h1;exact⟨h1,λ_ _ h=>by cases h⟩
  | ok t ts'=>
   show En (if ts'.tk.kind=27 then _ else _)/\∀t2 N5,(if ts'.tk.kind=27 then _ else _)=TRes.ok t2 N5->_
   split
   ·exact⟨En.ok,λ_ _ h=>by injection h with _ e;rw[←e];exact ho⟩
   ·exact⟨En.two,λ_ _ h=>by cases h⟩
theorem Nz.signed{o:Nat}(hk:o<=12){f g:TS->TRes}(hS:o<12->Nz (o+1) f)(hE:o<12->Nz (o+1) g):Nz o (qr0 f g):=by
 intro ts ho;unfold qr0
 split
 ·exact Nz.sign hk hS 14 ts ho
 split
 ·exact Nz.sign hk hS 15 ts ho
 split
 ·exact Nz.group hk hE ts ho
 split
 ·exact⟨En.ok,λ_ _ h=>by injection h with _ e;rw[←e];exact ho⟩
 split
 ·exact⟨En.ok,λ_ _ h=>by injection h with _ e;rw[←e];exact ho⟩
 split
 ·exact⟨En.ok,λ_ _ h=>by injection h with _ e;rw[←e];exact ho⟩
 split
 ·exact⟨En.ok,λ_ _ h=>by injection h with _ e;rw[←e];exact ho⟩
 split
 ·exact⟨En.ok,λ_ _ h=>by injection h with _ e;rw[←e];exact ho⟩
 ·exact⟨En.two,λ_ _ h=>by cases h⟩
theorem nz_isNull{o:Nat}(l:Ast)(ts:TS)(ho:ts.op=o):En (tIsNull l ts)/\∀t ts',tIsNull l ts=.ok t ts'->ts'.op=o:=by
 unfold tIsNull
 split
 ·split
  ·exact⟨En.ok,λ_ _ h=>by injection h with _ e;rw[←e];exact ho⟩
  ·exact⟨En.two,λ_ _ h=>by cases h⟩
 ·split
  ·exact⟨En.ok,λ_ _ h=>by injection h with _ e;rw[←e];exact ho⟩
  ·exact⟨En.two,λ_ _ h=>by cases h⟩
theorem nz_inLoop{o:Nat}(l:Ast):∀n xs ts,ts.op=o->ts.toks.length<n->En (qm9 l n xs ts)/\∀t ts',qm9 l n xs ts=.ok t ts'->ts'.op=o:=by
 intro n
 induction n with
 | zero=>intro xs ts _ h;omega
 | succ n ih=>
  intro xs ts ho hl;rw[qm9]
  by_cases h28:ts.tk.kind=28
  ·rw[if_pos h28]
   have C1:=qc4 (by decide) h28
   have A1:ts.next.toks.length<ts.toks.length:=by
    cases ht:ts.toks with
    | nil=>exact absurd ht C1
    | cons a r=>show(ts.toks.tail).length<_;rw[ht];simp
   split
   ·have:=qc6 ts.next
    exact ih _ ts.next.next ho (by omega)
   ·exact⟨En.two,λ_ _ h=>by cases h⟩
  ·rw[if_neg h28]
   split
   ·exact⟨En.ok,λ_ _ h=>by injection h with _ e;rw[←e];exact ho⟩
   ·exact⟨En.two,λ_ _ h=>by cases h⟩
theorem nz_in{o:Nat}(l:Ast)(ts:TS)(ho:ts.op=o):En (tInRes l ts)/\∀t ts',tInRes l ts=.ok t ts'->ts'.op=o:=by
 unfold tInRes
 split
 ·split
  ·have l1:=qc6 ts
   have l2:=qc6 ts.next;have l3:=qc6 ts.next.next;exact nz_inLoop l _ _ ts.next.next.next ho (by omega)
  ·exact⟨En.two,λ_ _ h=>by cases h⟩
 ·exact⟨En.two,λ_ _ h=>by cases h⟩
theorem nz_like{o:Nat}(l:Ast)(ts:TS)(ho:ts.op=o):En (tLike l ts)/\∀t ts',tLike l ts=.ok t ts'->ts'.op=o:=by
 unfold tLike
 split
 ·split
  ·split
   ·exact⟨En.ok,λ_ _ h=>by injection h with _ e;rw[←e];exact ho⟩
   ·exact⟨En.two,λ_ _ h=>by cases h⟩
  ·exact⟨En.ok,λ_ _ h=>by injection h with _ e;rw[←e];exact ho⟩
 ·exact⟨En.two,λ_ _ h=>by cases h⟩
theorem Nz.between{o:Nat}{f:TS->TRes}(h:Nz o f)(l:Ast)(ts:TS)(ho:ts.op=o):En (qn5 f l ts)/\∀t ts',qn5 f l ts=.ok t ts'->ts'.op=o:=by
 unfold qn5
 split
 ·obtain⟨h1,h2⟩:=h ts.next ho
  cases hf:f ts.next with
  | err en=>rw[hf]at h1;exact⟨h1,λ_ _ h=>by cases h⟩
  | ok t U1=>
   show En (if U1.tk.kind=5 then _ else _)/\∀t2 N5,(if U1.tk.kind=5 then _ else _)=TRes.ok t2 N5->_
   split
   ·have K8:U1.op=o:=h2 _ _ hf
    obtain⟨h3,h4⟩:=h U1.next K8
    cases hg:f U1.next with
    | err en=>rw[hg]at h3;exact⟨h3,λ_ _ h=>by cases h⟩
    | ok t2 N5=>exact⟨En.ok,λ_ _ h=>by injection h with _ e;rw[←e];exact h4 _ _ hg⟩
   ·exact⟨En.two,λ_ _ h=>by cases h⟩
 ·exact⟨En.two,λ_ _ h=>by cases h⟩
theorem Nz.keyword{o:Nat}{f:TS->TRes}(h:Nz o f)(bare:Bool)(l:Ast)(ts:TS)(ho:ts.op=o):En (qj8 f bare l ts)/\∀t ts',qj8 f bare l ts=.ok t ts'->ts'.op=o:=by
 unfold qj8
 split
 ·exact nz_in l ts ho
 split
 ·exact nz_like l ts ho
 ·exact h.between l ts ho
theorem Nz.test{o:Nat}{f:TS->TRes}(h:Nz o f):Nz o (vq8 f):=by
 intro ts ho;obtain⟨h1,h2⟩:=h ts ho;unfold vq8
 cases hf:f ts with
 | err en=>rw[hf]at h1;exact⟨h1,λ_ _ h=>by cases h⟩
 | ok l U1=>
  have K8:=h2 _ _ hf;show En (vq7 f _ l U1)/\∀t2 N5,vq7 f _ l U1=TRes.ok t2 N5->_;unfold vq7
  split
  ·exact h.join U1 l K8
  split
  ·split
   ·exact nz_isNull l U1 K8
   ·exact⟨En.ok,λ_ _ h=>by injection h with _ e;rw[←e];exact K8⟩
  split
  ·obtain⟨h3,h4⟩:=h.keyword (ts.tk.kind==2&&opA l==0) l U1.next K8
   cases hg:qj8 f (ts.tk.kind==2&&opA l==0) l U1.next with
   | err en=>rw[hg]at h3;exact⟨h3,λ_ _ h=>by cases h⟩
   | ok t2 N5=>exact⟨En.ok,λ_ _ h=>by injection h with _ e;rw[←e];exact h4 _ _ hg⟩
  split
  ·exact h.keyword _ l U1 K8
  ·exact⟨En.ok,λ_ _ h=>by injection h with _ e;rw[←e];exact K8⟩
theorem Nz.denied{o:Nat}(hk:o<=12){f g:TS->TRes}(hD:o<12->Nz (o+1) f)(hT:Nz o g):Nz o (qs1 f g):=by
 intro ts ho;unfold qs1
 split
 ·exact Nz.sign hk hD 5 ts ho
 ·exact hT ts ho
structure Nz3(o:Nat)(L:T3):Prop where
 S:Nz o L.S
 D:Nz o L.D
 E:Nz o L.E
theorem nz_up{o:Nat}(hk:o<=12){L:T3}(h:o<12->Nz3 (o+1) L):Nz3 o (tUp L):=by
 have hS:=Nz.signed hk (λe=>(h e).S) (λe=>(h e).E);have hT:=((hS.row [24,25]).row [22,23]).test;have hD:=Nz.denied hk (λe=>(h e).D) hT;exact⟨hS,hD,(hD.row [5]).row [6]⟩
theorem nz_lvl:∀d o,o+d=12->Nz3 o (tLvl d):=by
 intro d
 induction d with
 | zero=>intro o h;exact nz_up (by omega) (λe=>absurd e (by omega))
 | succ d ih=>intro o h;exact nz_up (by omega) (λe=>ih (o+1) (by omega))
theorem qi8{s:ByteArray}{en pl:Int}(h:qg4 s=.err en pl):en=1\/en=2\/en=3\/en=4:=by
 unfold qg4 at h
 by_cases hs:s.size<=200
 ·rw[if_pos hs]at h
  obtain⟨L,hL⟩:=vv5 _ s.data.toList (Nat.le_refl _);have N0:Str s (j4 s st0) L:=vp9 hL st0 (Nat.zero_le _) (List.drop_zero);have J7:=qa7 s st0 (Nat.zero_le _);have gE:=(jp8 s 12).E (j4 s st0) ⟨L,0⟩ J7 N0 rfl;rcases gE.cases with⟨t1,st,ts,e1,e2,e3,e4,e5⟩|⟨en',pl',e1,e2⟩
  ·rw[e1]at h
   change jh3 t1 st=_ at h
   unfold jh3 at h
   by_cases hk:st.tk.kind=0
   ·rw[if_pos hk]at h
    cases hc:zb3 (qb3 t1) with
    | some q=>rw[hc]at h;injection h with h1 _;exact .inr (.inr (.inr h1.symm))
    | none=>rw[hc]at h;cases h
   ·rw[if_neg hk]at h;injection h with h1 _;exact .inr (.inl h1.symm)
  ·rw[e1]at h
   injection h with h1 _;subst h1;rcases((nz_lvl 12 0 rfl).E ⟨L,0⟩ rfl).1 _ e2 with e|e
   ·exact .inr (.inl e)
   ·exact .inr (.inr (.inl e))
 ·rw[if_neg hs]at h
  injection h with h1 _;exact .inl h1.symm
end
section
def EvIn(w:World)(ev:Value)(ps:List Pr):Prop:=
 (ps=[]/\∃a cap,ev=.slice a 0 cap)\/∃b off cap,ev=.slice (some ⟨b,off,none⟩) ps.length cap/\ps.length<=cap/\EvAt w b off ps/\b<w.heap.size
theorem EvIn.below{w w':World}{ev:Value}{ps:List Pr}(h:EvIn w ev ps)(hb:Below w.heap.size w w'):EvIn w' ev ps:=by
 rcases h with h|⟨b,off,cap,rfl,hc,he,A1⟩
 ·exact .inl h
 ·exact .inr ⟨b,off,cap,rfl,hc,he.below hb A1,Nat.lt_of_lt_of_le A1 hb.size⟩
theorem EvIn.slice{w:World}{ev:Value}{ps:List Pr}(h:EvIn w ev ps):∃a n c,ev=.slice a n c:=by
 rcases h with⟨_,a,cap,rfl⟩|⟨b,off,cap,rfl,_⟩
 ·exact⟨_,_,_,rfl⟩
 ·exact⟨_,_,_,rfl⟩
structure EvGood(ps:List Pr):Prop where
 short:Short ps
 rng:EvRng ps
 len:ps.length<=140737488355328
theorem read_good{s:ByteArray}{t:Ast}(h:qg4 s=.ok t):vg5 t/\vg4 t:=by
 unfold qg4 at h
 by_cases hs:s.size<=200
 ·rw[if_pos hs]at h
  cases he:(lvl s 12).E (j4 s st0) with
  | err en pl=>rw[he]at h;cases h
  | ok t1 st=>
   rw[he]at h
   change jh3 t1 st=_ at h
   have:t1=t:=by
    unfold jh3 at h
    split at h
    ·split at h
     ·injection h
     ·cases h
    ·cases h
   subst this;exact⟨((lvl_num s 12).E _ _ _ (qe3 s st0) he).1,((lvl_bnd s hs 12).E _ _ _ (qa4 hs st0) he).1⟩
 ·rw[if_neg hs]at h;cases h
end
section
open Go.ChangeShapes Go.WideShapes Go.ChangeAt Go.RowKit Go.Deep Go.Proofs.Tryz
theorem ja6:prog.cellsOf 28=4:=by kernel_rfl
theorem cellsVal:prog.cellsOf 26=3:=by kernel_rfl
theorem vi1:prog.cellsOf 9=1:=by kernel_rfl
theorem jq1:prog.cellsOf 3=1:=by kernel_rfl
theorem cellsI64:prog.cellsOf 2=1:=by kernel_rfl
theorem ja5:prog.bytesOf 28=48:=by kernel_rfl
section
variable {H:Type} {enc:TypeId×Value->H}
theorem jt5{n:Int}(h:(Lit.int .i64 n).wf=true):Rng n:=by
 simp only[Lit.wf,Bool.and_eq_true,decide_eq_true_eq]at h;exact⟨h.1,h.2⟩
theorem open_prop{W:World}{base:Nat}{sp:Nat->Bool}{n:Nat}{cs:List Value}{x:DataW H×List MemPlace}(h:DataW.trod enc prog W base sp true n 28 cs=some x):
  ∃(nm st:ByteArray) (k m:Int),cs=[.string nm,.int .i64 k,.int .i64 m,.string st]/\x=(.agg [.lit (.string nm.data.toList),.agg [.lit (.int .i64 k),.lit (.int .i64 m),.lit (.string st.data.toList)]],[])/\Rng m:=by
 obtain⟨y0,y1,n1,rfl,hl,t0,t1⟩:=trod_struct2 underlying28 h;rw[ja6]at hl
 match cs,hl with
 | [c0,c1,c2,c3],_=>
  simp only[vi1,cellsVal,List.drop,List.take]at t0 t1;obtain⟨nm,h0,rfl,_⟩:=DataW.trod_string underlying9 t0;obtain⟨z0,z1,z2,n2,rfl,_,u0,u1,u2⟩:=trod_struct3 underlying26 t1;simp only[jq1,cellsI64,vi1,List.drop,List.take]at u0 u1 u2;obtain⟨k,h1,rfl,_⟩:=DataW.trod_int underlying3 u0;obtain⟨m,h2,rfl,wm⟩:=DataW.trod_int underlying2 u1;obtain⟨st,h3,rfl,_⟩:=DataW.trod_string underlying9 u2;simp only[List.cons.injEq,and_true]at h0 h1 h2 h3;subst h0 h1 h2 h3;exact⟨nm,st,k,m,rfl,rfl,jt5 wm⟩
theorem va9{P:Program}{e:TypeId}{d:DataW H}:∀{l:List (DataW H)},d∈l->∀n∈d.weights P e,n∈DataW.weightsAll P e l:=by
 intro l
 induction l with
 | nil=>intro h;cases h
 | cons a r ih=>
  intro h n hn;rw[DataW.weightsAll];rcases List.mem_cons.1 h with rfl|h
  ·exact List.mem_append_left _ hn
  ·exact List.mem_append_right _ (ih h n hn)
theorem jh0(nm st:List UInt8)(k m:Int):(DataW.agg [.lit (.string nm),.agg [.lit (.int .i64 k),.lit (.int .i64 m),.lit (.string st)]]:DataW H).weights prog 28=[nm.length,st.length]:=by
 rw[DataW.weights,underlying28];simp only[List.map,DataW.weightsEach,DataW.weights,underlying26];rfl
theorem vw3{W:World}{fuel:Nat}{cs:List Value}{d:DataW H}{pl:List MemPlace}(ht:DataW.trod enc prog W 0 (λ_=>true) true fuel 29 cs=some (d,pl))
  (hw:∀n∈d.weights prog 29,n<=reachBytes):∃v ps,cs=[v]/\EvIn W v ps/\EvGood ps:=by
 rcases open_slice underlying29 ht with⟨hc,hx⟩|⟨a,len0,oS,m,n,D,Pl,hc,_,hl,hm,fP,hx,aO⟩
 ·exact⟨_,[],hc,.inl ⟨rfl,none,0,rfl⟩,⟨(λp hp=>by cases hp),(λp hp=>by cases hp),Nat.zero_le _⟩⟩
 ·simp only[if_true]at fP
  subst fP;simp only[Prod.mk.injEq]at hx;obtain⟨rfl,rfl⟩:=hx;refine⟨.slice (some a) len0 m, ?_⟩
  suffices hgoal:∃ps,EvIn W (.slice (some a) len0 m) ps/\EvGood ps by
   obtain⟨ps,h1,h2⟩:=hgoal;exact⟨ps,hc,h1,h2⟩
  rw[ja6]at aO;have each:∀i,i<len0->∃p:Pr,(W.cell? (a.add (i * 4))=some (.string (BS p.name))/\W.cell? (a.add (i * 4+1))=some (.int .i64 p.val.kind)/\W.cell? (a.add (i * 4+2))=some (.int .i64 p.val.num)/\W.cell? (a.add (i * 4+3))=some (.string (BS p.val.str)))/\Rng p.val.num /\
    D i=.agg [.lit (.string p.name),.agg [.lit (.int .i64 p.val.kind),.lit (.int .i64 p.val.num),.lit (.string p.val.str)]]:=by
   intro i hi;obtain⟨cs',h1,h2⟩:=aO i (by omega);obtain⟨nm,st,k,mm,rfl,hD,hr⟩:=open_prop h2;simp only[Prod.mk.injEq]at hD;obtain⟨_,_,V5⟩:=World.cells?_some h1;have c0:=V5 0 (by decide);have c1:=V5 1 (by decide);have c2:=V5 2 (by decide);have c3:=V5 3 (by decide);rw[add_add]at c0 c1 c2 c3;exact⟨⟨nm.data.toList,⟨k,mm,st.data.toList⟩⟩,⟨c0,c1,c2,c3⟩,hr,hD.1⟩
  have inh:Inhabited Pr:=⟨⟨[],nV⟩⟩;obtain⟨f,hf⟩:=choose_lt each
  have kD:∀(k:Nat) (p:Pr),((List.range len0).map f)[k]?=some p->k<len0/\p=f k:=by
   intro k p hk;rw[List.getElem?_map]at hk
   cases hr:(List.range len0)[k]? with
   | none=>rw[hr]at hk;cases hk
   | some j=>
    rw[hr]at hk;obtain⟨h1,h2⟩:=List.getElem?_eq_some_iff.1 hr;rw[List.length_range]at h1;rw[List.getElem_range]at h2;subst h2;exact⟨h1,by simpa using hk.symm⟩
  have C7:((List.range len0).map f).length=len0:=by rw[List.length_map,List.length_range]
  have cK:∀p∈(List.range len0).map f,∃k,k<len0/\p=f k:=by
   intro p hp;obtain⟨k,hk⟩:=List.getElem?_of_mem hp;exact⟨k,kD k p hk⟩
  have a8:=hw;rw[DataW.weights,underlying29]at a8;simp only[List.mem_cons,List.mem_append]at a8;refine⟨(List.range len0).map f, ?_,⟨?_, ?_, ?_⟩⟩
  ·cases len0 with
   | zero=>exact .inl ⟨rfl,some a,_,rfl⟩
   | succ l=>
    right
    obtain⟨b,off,spot⟩:=a
    have hs:spot=none:=by
     have:=World.cell?_spot (hf 0 (by omega)).1.1;simpa [Addr.add]using this
    subst hs;have O9:∀j,(⟨b,off,none⟩:Addr).add j=⟨b,off+j,none⟩:=by intro j;simp[Addr.add]
    refine⟨b,off,_,by rw[C7],by rw[C7];exact hl, ?_, ?_⟩
    ·intro k p hk
     obtain⟨A0,rfl⟩:=kD k p hk;obtain⟨⟨c0,c1,c2,c3⟩,_,_⟩:=hf k A0;rw[O9]at c0 c1 c2 c3;exact⟨c0,c1,c2,c3⟩
    ·have:=(hf 0 (by omega)).1.1
     rw[O9]at this;exact block_lt_of_cell this
  ·intro p hp
   obtain⟨k,hk,rfl⟩:=cK p hp;have hD:=(hf k hk).2.2;have dH:D k∈(List.range len0).map D:=List.mem_map.2 ⟨k,List.mem_range.2 hk,rfl⟩;have h2:=λn hn=>a8 n (.inr (.inl (va9 dH n hn)))
   rw[hD,jh0]at h2;have e1:=h2 _ (by simp:(f k).name.length∈[(f k).name.length,(f k).val.str.length]);have e2:=h2 _ (by simp:(f k).val.str.length∈[(f k).name.length,(f k).val.str.length]);unfold reachBytes at e1 e2;exact⟨by omega,by omega⟩
  ·intro p hp
   obtain⟨k,hk,rfl⟩:=cK p hp;exact(hf k hk).2.1
  ·have:=a8 _ (.inl rfl)
   rw[ja5,List.length_map,List.length_range]at this;rw[C7];unfold reachBytes at this;omega
end
end
section
open Go.ChangeShapes Go.WideShapes Go.ChangeAt Go.RowKit Go.Deep Go.Proofs.Tryz
structure Ox where
 kind:Int
 n:Int
 id:Int
 text:List UInt8
 la:Option Addr
 lc:Nat
 ts:List (List UInt8)
 ev:Value
 ps:List Pr
def TxIn(W:World)(a:Option Addr)(ts:List (List UInt8)):Prop:=
 ∀(k:Nat) (s:List UInt8),ts[k]?=some s->s.length<=140737488355328/\∃sb so,a=some ⟨sb,so,none⟩/\sb<W.heap.size/\W.cell? ⟨sb,so+k,none⟩=some (.string (BS s))
structure OxOk(W:World)(x:Ox):Prop where
 text:x.text.length<=140737488355328
 kind:Rng x.kind
 n:Rng x.n
 id:Rng x.id
 tx:TxIn W x.la x.ts
 tl:16 * x.ts.length<=140737488355328
 tc:x.ts.length<=x.lc
 ev:EvIn W x.ev x.ps
 good:EvGood x.ps
 el:48 * x.ps.length<=140737488355328
theorem TxIn.below{W W':World}{a:Option Addr}{ts:List (List UInt8)}(h:TxIn W a ts)(hb:Below W.heap.size W W'):TxIn W' a ts:=λk s hs=>by
 obtain⟨h1,sb,so,h2,h3,h4⟩:=h k s hs;exact⟨h1,sb,so,h2,Nat.lt_of_lt_of_le h3 hb.size,((qb0 hb).1 _ _ h3).trans h4⟩
theorem OxOk.below{W W':World}{x:Ox}(h:OxOk W x)(hb:Below W.heap.size W W'):OxOk W' x:=⟨h.text,h.kind,h.n,h.id,h.tx.below hb,h.tl,h.tc,h.ev.below hb,h.good,h.el⟩
def vn4(x:Ox):List Value:=[.int .i64 x.kind,.int .i64 x.n,.int .i64 x.id,.string (BS x.text),.slice x.la x.ts.length x.lc,x.ev]
def oxV(x:Ox):Value:=.agg #[.int .i64 x.kind,.int .i64 x.n,.int .i64 x.id,.string (BS x.text),.slice x.la x.ts.length x.lc,x.ev]
def OpsAt(W:World)(v:Value)(l:List Ox):Prop:=
 ∃a cap,v=.slice a l.length cap/\l.length<=cap/\88 * l.length<=140737488355328/\∀(i:Nat) (x:Ox),l[i]?=some x->OxOk W x/\∃b off,a=some ⟨b,off,none⟩/\b<W.heap.size/\∀k,k<6->W.cell? ⟨b,off+i * 6+k,none⟩=(vn4 x)[k]?
theorem cellsOx:prog.cellsOf 64=6:=by kernel_rfl
theorem cellsEvL:prog.cellsOf 29=1:=by kernel_rfl
theorem cellsTx:prog.cellsOf 62=1:=by kernel_rfl
theorem bytesOx:prog.bytesOf 64=88:=by kernel_rfl
theorem bytesStr:prog.bytesOf 9=16:=by kernel_rfl
section
variable {H:Type} {enc:TypeId×Value->H}
theorem jg4{P:Program}{w:World}{base:Nat}{spare:Nat->Bool}{held:Bool}{t:TypeId}{f0 f1 f2 f3 f4 f5:Field}{fuel:Nat}{cs:List Value}{x:DataW H×List MemPlace}(ht:P.underlying t=some (.struct #[f0,f1,f2,f3,f4,f5]))(h:DataW.trod enc P w base spare held fuel t cs=some x):
  ∃y0 y1 y2 y3 y4 y5 n,x.1=.agg [y0.1,y1.1,y2.1,y3.1,y4.1,y5.1]/\cs.length=P.cellsOf t/\DataW.trod enc P w base spare held n f0.type ((cs.drop f0.offset).take (P.cellsOf f0.type))=some y0 /\
   DataW.trod enc P w base spare held n f1.type ((cs.drop f1.offset).take (P.cellsOf f1.type))=some y1/\DataW.trod enc P w base spare held n f2.type ((cs.drop f2.offset).take (P.cellsOf f2.type))=some y2 /\
   DataW.trod enc P w base spare held n f3.type ((cs.drop f3.offset).take (P.cellsOf f3.type))=some y3/\DataW.trod enc P w base spare held n f4.type ((cs.drop f4.offset).take (P.cellsOf f4.type))=some y4 /\
   DataW.trod enc P w base spare held n f5.type ((cs.drop f5.offset).take (P.cellsOf f5.type))=some y5:=by
 obtain⟨xs,n,_,rfl,hl,C7,hf⟩:=DataW.trod_struct ht h
 match xs,C7 with
 | [y0,y1,y2,y3,y4,y5],_=>exact⟨y0,y1,y2,y3,y4,y5,n,by simp,hl,by simpa using hf 0 f0 rfl,by simpa using hf 1 f1 rfl,by simpa using hf 2 f2 rfl,by simpa using hf 3 f3 rfl,by simpa using hf 4 f4 rfl,by simpa using hf 5 f5 rfl⟩
theorem vw4{W:World}{fuel:Nat}{cs:List Value}{d:DataW H}{pl:List MemPlace}(ht:DataW.trod enc prog W 0 (λ_=>true) true fuel 62 cs=some (d,pl))
  (hw:∀n∈d.weights prog 62,n<=reachBytes):∃a ts c,cs=[.slice a ts.length c]/\TxIn W a ts/\16 * ts.length<=140737488355328/\ts.length<=c:=by
 rcases open_slice underlying62 ht with⟨hc,hx⟩|⟨a,len0,oS,m,n,D,Pl,hc,_,hl,hm,fP,hx,aO⟩
 ·exact⟨none,[],0,hc,(λk s h=>by simp at h),Nat.zero_le _,Nat.zero_le _⟩
 ·simp only[if_true]at fP
  subst fP;simp only[Prod.mk.injEq]at hx;obtain⟨rfl,rfl⟩:=hx;rw[vi1]at aO;have a8:=hw;rw[DataW.weights,underlying62]at a8;simp only[List.mem_cons,List.mem_append]at a8
  have each:∀i,i<len0->∃s:List UInt8,s.length<=140737488355328/\W.cell? (a.add i)=some (.string (BS s)):=by
   intro i hi;obtain⟨cs',h1,h2⟩:=aO i (by omega);obtain⟨st,h3,h4,_⟩:=DataW.trod_string underlying9 h2;have dH:D i∈(List.range len0).map D:=List.mem_map.2 ⟨i,List.mem_range.2 hi,rfl⟩;have hD:D i=.lit (.string st.data.toList):=by simpa using congrArg Prod.fst h4
   have vC:st.data.toList.length<=reachBytes:=a8 _ (.inr (.inl (va9 dH _ (by rw[hD];simp[DataW.weights]))));obtain⟨_,_,V5⟩:=World.cells?_some h1;subst h3;have c0:=V5 0 (by decide);rw[add_add]at c0;unfold reachBytes at vC;exact⟨st.data.toList,by omega,by rw[BS_of];simpa using c0⟩
  obtain⟨f,hf⟩:=choose_lt each;have C7:((List.range len0).map f).length=len0:=by rw[List.length_map,List.length_range]
  refine⟨some a,(List.range len0).map f,_,by rw[C7];exact hc,λk s hk=>?_, ?_,by rw[C7];exact hl⟩
  ·rw[List.getElem?_map]at hk
   cases hr:(List.range len0)[k]? with
   | none=>rw[hr]at hk;cases hk
   | some j=>
    rw[hr]at hk;obtain⟨h1,h2⟩:=List.getElem?_eq_some_iff.1 hr;rw[List.length_range]at h1;rw[List.getElem_range]at h2;subst h2;obtain rfl:f k=s:=by simpa using hk
    obtain⟨q1,q2⟩:=hf k h1;obtain⟨b,off,spot⟩:=a
    have hs:spot=none:=by
     have:=World.cell?_spot (hf 0 (by omega)).2;simpa [Addr.add]using this
    subst hs;have O9:(⟨b,off,none⟩:Addr).add k=⟨b,off+k,none⟩:=by simp[Addr.add]
    rw[O9]at q2;exact⟨q1,b,off,rfl,block_lt_of_cell q2,q2⟩
  ·have:=a8 _ (.inl rfl)
   rw[bytesStr,List.length_map,List.length_range]at this;rw[C7];unfold reachBytes at this;omega
theorem event_len{W:World}{fuel:Nat}{a:Option Addr}{n c:Nat}{d:DataW H}{pl:List MemPlace}(ht:DataW.trod enc prog W 0 (λ_=>true) true fuel 29 [.slice a n c]=some (d,pl))
  (hw:∀n∈d.weights prog 29,n<=reachBytes):48 * n<=140737488355328:=by
 rcases open_slice underlying29 ht with⟨hc,hx⟩|⟨a',len0,oS,m,n',D,Pl,hc,_,hl,hm,fP,hx,aO⟩
 ·simp at hc
  omega
 ·simp at hc
  obtain⟨rfl,rfl,rfl⟩:=hc;simp only[if_true]at fP;subst fP;simp only[Prod.mk.injEq]at hx;obtain⟨rfl,rfl⟩:=hx;have a8:=hw;rw[DataW.weights,underlying29]at a8;simp only[List.mem_cons,List.mem_append]at a8;have:=a8 _ (.inl rfl);rw[ja5,List.length_map,List.length_range]at this;unfold reachBytes at this;omega
theorem zb0(tx:List UInt8)(k m i:Int)(dl dv:DataW H):(DataW.agg [.lit (.int .i64 k),.lit (.int .i64 m),.lit (.int .i64 i),.lit (.string tx),dl,dv]:DataW H).weights prog 64=tx.length::(dl.weights prog 62++dv.weights prog 29):=by
 rw[DataW.weights,underlying64];simp only[List.map,DataW.weightsEach,DataW.weights];simp
theorem EvIn.len{W:World}{a:Option Addr}{n c:Nat}{ps:List Pr}(h:EvIn W (.slice a n c) ps):ps.length=n:=by
 rcases h with⟨rfl,a',cap,e⟩|⟨b,off,cap,e,_⟩
 ·injection e with _ e _
  exact e.symm
 ·injection e with _ e _
  exact e.symm
theorem open_op{W:World}{n:Nat}{cs:List Value}{d:DataW H}{pl:List MemPlace}(h:DataW.trod enc prog W 0 (λ_=>true) true n 64 cs=some (d,pl))(hw:∀n∈d.weights prog 64,n<=reachBytes):
  ∃x:Ox,cs=vn4 x/\OxOk W x:=by
 obtain⟨y0,y1,y2,y3,y4,y5,n1,hx,hl,t0,t1,t2,t3,t4,t5⟩:=jg4 underlying64 h;rw[cellsOx]at hl
 match cs,hl with
 | [c0,c1,c2,c3,c4,c5],_=>
  simp only[jq1,vi1,cellsEvL,cellsTx,List.drop,List.take]at t0 t1 t2 t3 t4 t5;obtain⟨k,h0,rfl,wk⟩:=DataW.trod_int underlying3 t0;obtain⟨m,h1,rfl,wm⟩:=DataW.trod_int underlying3 t1;obtain⟨i,h2,rfl,wi⟩:=DataW.trod_int underlying3 t2;obtain⟨tx,h3,rfl,_⟩:=DataW.trod_string underlying9 t3;obtain⟨d4,p4⟩:=y4;obtain⟨d5,p5⟩:=y5;simp only at hx;subst hx;rw[zb0]at hw;have w1:=hw _ (List.mem_cons_self ..);obtain⟨a,ts,c,W9,dE,U2,mW⟩:=vw4 t4 λm hm=>hw m (List.mem_cons_of_mem _ (List.mem_append_left _ hm))
  obtain⟨v,ps,hv,he,hg⟩:=vw3 t5 λm hm=>hw m (List.mem_cons_of_mem _ (List.mem_append_right _ hm))
  simp only[List.cons.injEq,and_true]at h0 h1 h2 h3 W9 hv;subst h0 h1 h2 h3 W9 hv;unfold reachBytes at w1;obtain⟨ea,en,ec,rfl⟩:=he.slice;have MQ:=event_len t5 λm hm=>hw m (List.mem_cons_of_mem _ (List.mem_append_right _ hm))
  exact⟨⟨k,m,i,tx.data.toList,a,c,ts,.slice ea en ec,ps⟩,rfl,⟨by show tx.data.toList.length<=_;omega,jt5 wk,jt5 wm,jt5 wi,dE,U2,mW,he,hg,by rw[he.len];exact MQ⟩⟩
theorem open_ops{W:World}{base:Nat}{v:Value}{d:DataW H}{pl:List MemPlace}(eB:Value.okWide prog W .any base 22 v)(h:DataW.Trod enc prog W 0 (λ_=>true) true 22 v d pl)
  (hw:∀n∈d.weights prog 22,n<=reachBytes):∃l,OpsAt W v l:=by
 obtain⟨fuel,ht⟩:=h;obtain⟨a0,len0,oS,rfl⟩:=okWide_slice underlying22 eB;rcases open_slice underlying22 ht with⟨hc,hx⟩|⟨a,len,cap,m,n,D,Pl,hc,_,hl,hm,fP,hx,aO⟩
 ·simp[Value.cells]at hc
  obtain⟨rfl,rfl,rfl⟩:=hc;exact⟨[],none,0,rfl,Nat.zero_le _,Nat.zero_le _,λi x hi=>by simp at hi⟩
 ·simp[Value.cells]at hc
  obtain⟨rfl,rfl,rfl⟩:=hc;simp only[if_true]at fP;subst fP;simp only[Prod.mk.injEq]at hx;obtain⟨rfl,rfl⟩:=hx;rw[cellsOx]at aO;have a8:=hw;rw[DataW.weights,underlying22]at a8;simp only[List.mem_cons,List.mem_append]at a8
  have each:∀i,i<len0->∃x:Ox,OxOk W x/\∀k,k<6->W.cell? (a.add (i * 6+k))=(vn4 x)[k]?:=by
   intro i hi;obtain⟨cs',h1,h2⟩:=aO i (by omega);have dH:D i∈(List.range len0).map D:=List.mem_map.2 ⟨i,List.mem_range.2 hi,rfl⟩;obtain⟨x,rfl,ok⟩:=open_op h2 λn hn=>a8 n (.inr (.inl (va9 dH n hn)))
   obtain⟨_,_,V5⟩:=World.cells?_some h1;refine⟨x,ok,λk hk=>?_⟩;have c:=V5 k hk;rw[add_add]at c;rw[c]
  have inh:Inhabited Ox:=⟨⟨0,0,0,[],none,0,[],.slice none 0 0,[]⟩⟩;obtain⟨f,hf⟩:=choose_lt each;have C7:((List.range len0).map f).length=len0:=by rw[List.length_map,List.length_range]
  have kD:∀(k:Nat) (p:Ox),((List.range len0).map f)[k]?=some p->k<len0/\p=f k:=by
   intro k p hk;rw[List.getElem?_map]at hk
   cases hr:(List.range len0)[k]? with
   | none=>rw[hr]at hk;cases hk
   | some j=>
    rw[hr]at hk;obtain⟨h1,h2⟩:=List.getElem?_eq_some_iff.1 hr;rw[List.length_range]at h1;rw[List.getElem_range]at h2;subst h2;exact⟨h1,by simpa using hk.symm⟩
  refine⟨(List.range len0).map f,some a,_,by rw[C7],by rw[C7];exact hl, ?_,λi x hi=>?_⟩
  ·have:=a8 _ (.inl rfl)
   rw[bytesOx,List.length_map,List.length_range]at this;rw[C7];unfold reachBytes at this;omega
  ·obtain⟨h1,rfl⟩:=kD i x hi
   obtain⟨ok,hc⟩:=hf i h1;obtain⟨b,off,spot⟩:=a
   have hs:spot=none:=by
    have:=(hf 0 (by omega)).2 0 (by omega);have:=World.cell?_spot this;simpa [Addr.add]using this
   subst hs;have O9:∀j,(⟨b,off,none⟩:Addr).add j=⟨b,off+j,none⟩:=by intro j;simp[Addr.add]
   have cU:∀k,k<6->W.cell? ⟨b,off+i * 6+k,none⟩=(vn4 (f i))[k]?:=λk hk=>by
    have:=hc k hk;rw[O9,←Nat.add_assoc]at this;exact this
   exact⟨ok,b,off,rfl,block_lt_of_cell (cU 0 (by omega)),cU⟩
end
end
section
theorem za7(le mo:Int)(WI:Nat->World->Prop)(w:World)(v:Value)(l:List Ox)(hl:OpsAt w v l)(h0:WI 0 (w.alloc (.cells #[.slice none 0 0,.slice none 0 0] 61)))(F2:∀k W,WI k W->Below w.heap.size w W)(T2:∀k W W',WI k W->Below W.heap.size W W'->WI k W')(hmore:∀k W,WI k W->WI (k+1) W)
  (hstep:∀k W x,k<l.length->WI k W->OxOk W x->((le<=x.kind/\x.kind<=mo)\/(5<=x.kind/\5<=mo))->Calls prog 33 #[.pointer (some ⟨w.heap.size,0,none⟩),oxV x] W λe W'=>e=.returned (.bool true)/\WI (k+1) W')
  (hlooks:∀k W,k<=l.length->WI k W->Calls prog 34 #[.pointer (some ⟨w.heap.size,0,none⟩)] W λe W'=>e=.returned (.bool true)/\WI k W') :
  Calls prog 15 #[v,.int .i64 le,.int .i64 mo] w λe w'=>e=.returned (.int .i64 (-1))/\WI l.length w':=by
 obtain⟨a,cap,rfl,gY,oB,rM⟩:=hl;obtain⟨n,hn⟩:∃n,l.length=n:=⟨_,rfl⟩;rw[hn]at gY oB hstep hlooks ⊢;have HN:=j3 hn;have HO:=j3 rM;have H0:=j3 h0;have JA:=j3 F2;have pB:=j3 T2;have IU:=j3 hmore;have qF:=j3 hstep;have uM:=j3 hlooks;clear hn rM h0 F2 T2 hstep hlooks hmore;go_enter func15,ntmps15
 go_wp2_with fail
 go_loopw [8] (λi wr=>∃k:Nat,k<=n/\i=.int .i64 k/\Hid (WI k wr)) (λi _=>n - (intOf i).toNat)
 case atStart=>exact⟨0,Nat.zero_le _,rfl,H0⟩
 case round=>
  clear H0;obtain⟨k,hk,rfl,BF⟩:=hrel
  by_cases A1:k<n
  ·obtain⟨x,hx⟩:∃x,l[k]?=some x:=⟨_,List.getElem?_eq_getElem (by have:=q9 HN;omega)⟩
   obtain⟨ok,b,off,rfl,hb,hc⟩:=q9 HO k x hx;have cB:=q9 JA _ _ (q9 BF);have Z3:b<wr.heap.size:=by have:=cB.size;omega
   have okr:=ok.below cB;have cT:∀j,j<6->wr.cell? ⟨b,off+k * 6+j,none⟩=(vn4 x)[j]?:=λj hj=>((qb0 cB).1 _ _ hb).trans (hc j hj)
   have lP:∃ea en ec,x.ev=.slice ea en ec:=ok.ev.slice;obtain⟨kind,nn,id,text,la,lc,ts,ev,ps⟩:=x;obtain⟨ea,en,ec,aL⟩:=lP;simp only at aL;subst aL;obtain⟨lt,L4⟩:∃t,ts.length=t:=⟨_,rfl⟩;have c0:wr.cell? ⟨b,off+k * 6,none⟩=some (.int .i64 kind):=cT 0 (by omega);have c1:wr.cell? ⟨b,off+k * 6+1,none⟩=some (.int .i64 nn):=cT 1 (by omega);have c2:wr.cell? ⟨b,off+k * 6+2,none⟩=some (.int .i64 id):=cT 2 (by omega);have c3:wr.cell? ⟨b,off+k * 6+3,none⟩=some (.string (BS text)):=cT 3 (by omega);have c4:wr.cell? ⟨b,off+k * 6+4,none⟩=some (.slice la ts.length lc):=cT 4 (by omega);have c5:wr.cell? ⟨b,off+k * 6+5,none⟩=some (.slice ea en ec):=cT 5 (by omega);have zK:=(Below.refl wr.heap.size wr).alloc (Nat.le_refl _) (.cells #[.int .i64 kind,.int .i64 nn,.int .i64 id,.string (BS text),.slice la ts.length lc,.slice ea en ec] 64);have HW:=j3 (q9 pB _ _ _ (q9 BF) zK);have LKS:Hid (∀W,WI (k+1) W->Calls prog 34 #[.pointer (some ⟨w.heap.size,0,none⟩)] W λe W'=>e=.returned (.bool true)/\WI (k+1) W'):=j3 λW h=>q9 uM (k+1) W (by omega) h
   have wP:=j3 (okr.below zK);have STP:Hid (((le<=kind/\kind<=mo)\/(5<=kind/\5<=mo))->∀W,WI k W->OxOk W ⟨kind,nn,id,text,la,lc,ts,.slice ea en ec,ps⟩->Calls prog 33 #[.pointer (some ⟨w.heap.size,0,none⟩),.agg #[.int .i64 kind,.int .i64 nn,.int .i64 id,.string (BS text),.slice la ts.length lc,.slice ea en ec]] W λe W'=>e=.returned (.bool true)/\WI (k+1) W'):=j3 λhh W h1 h2=>q9 qF k W ⟨kind,nn,id,text,la,lc,ts,.slice ea en ec,ps⟩ A1 h1 h2 hh
   rw[L4]at c4 HW wP STP;have wI:=j3 (q9 IU _ _ (q9 HW));have R0:(0:Int)<=(k:Int):=by omega
   have A0:(k:Int)<(n:Int):=by omega
   have nb:¬b=wr.heap.size:=by omega
   clear hx ok hc cB okr cT zK HO qF pB JA IU uM L4;rcases(show(le<=kind/\kind<=mo)\/(le<=kind/\¬kind<=mo)\/¬le<=kind by omega) with⟨h1,h2⟩|⟨h1,h2⟩|h1
   ·have STP:=j3 (q9 STP (by omega))
    go_wp2_with(first|(go_at_call 33;refine(q9 STP _ (q9 HW) (q9 wP)).mono ?_;rintro e w2⟨rfl,gC⟩;have mJ:=j3 gC;clear gC)|(go_at_call 34;refine(q9 LKS _ (q9 mJ)).mono ?_;rintro e w3⟨rfl,lN⟩;have uD:=j3 lN;clear lN))
    go_roundw
    case rel=>exact⟨k+1,by omega,by go_num,uD⟩
    case measure=>simp[intOf];omega
   ·skip
    rcases(show kind<5\/(¬kind<5/\mo<5)\/(¬kind<5/\¬mo<5) by omega) with h3|⟨h3,h4⟩|⟨h3,h4⟩
    ·clear STP
     go_wp2_with fail
     go_roundw
     case rel=>exact⟨k+1,by omega,by go_num,wI⟩
     case measure=>simp[intOf];omega
    ·clear STP
     go_wp2_with fail
     go_roundw
     case rel=>exact⟨k+1,by omega,by go_num,wI⟩
     case measure=>simp[intOf];omega
    ·have STP:=j3 (q9 STP (by omega))
     go_wp2_with(first|(go_at_call 33;refine(q9 STP _ (q9 HW) (q9 wP)).mono ?_;rintro e w2⟨rfl,gC⟩;have mJ:=j3 gC;clear gC)|(go_at_call 34;refine(q9 LKS _ (q9 mJ)).mono ?_;rintro e w3⟨rfl,lN⟩;have uD:=j3 lN;clear lN))
     go_roundw
     case rel=>exact⟨k+1,by omega,by go_num,uD⟩
     case measure=>simp[intOf];omega
   ·skip
    rcases(show kind<5\/(¬kind<5/\mo<5)\/(¬kind<5/\¬mo<5) by omega) with h3|⟨h3,h4⟩|⟨h3,h4⟩
    ·clear STP
     go_wp2_with fail
     go_roundw
     case rel=>exact⟨k+1,by omega,by go_num,wI⟩
     case measure=>simp[intOf];omega
    ·clear STP
     go_wp2_with fail
     go_roundw
     case rel=>exact⟨k+1,by omega,by go_num,wI⟩
     case measure=>simp[intOf];omega
    ·have STP:=j3 (q9 STP (by omega))
     go_wp2_with(first|(go_at_call 33;refine(q9 STP _ (q9 HW) (q9 wP)).mono ?_;rintro e w2⟨rfl,gC⟩;have mJ:=j3 gC;clear gC)|(go_at_call 34;refine(q9 LKS _ (q9 mJ)).mono ?_;rintro e w3⟨rfl,lN⟩;have uD:=j3 lN;clear lN))
     go_roundw
     case rel=>exact⟨k+1,by omega,by go_num,uD⟩
     case measure=>simp[intOf];omega
  ·have vK:¬(k:Int)<(n:Int):=by omega
   have t9:k=n:=by omega
   go_wp2_with fail
   go_ret;exact⟨rfl,t9 ▸ q9 BF⟩
end
section
def vn1(m:Nat):Value:=.int .i64 (-1099511627776 - (m:Int))
def vk1(m:Nat):Value:=.int .u8 ((m:Int) % 256)
def MkS(N:Nat->Prop)(T:TypeId)(W:World)(v x:Value):Prop:=∃a n c,v=.slice a n c/\n<=1000000000/\∀j,j<n->∃b cur,a=some ⟨b,0,none⟩/\N b/\W.heap[b]?=some (.cells cur T (0,0))/\W.cell? ⟨b,j,none⟩=some x
section
variable {N N':Nat->Prop} {W W':World} {v x:Value} {T:TypeId}
theorem vb4{W:World}{b:Nat}{o:Obj}(h:W.heap[b]?=some o):b<W.heap.size:=(Array.getElem?_eq_some_iff.1 h).1
theorem MkS.keep(h:MkS N T W v x)(hk:∀b,N b->b<W.heap.size->W'.heap[b]?=W.heap[b]?)(hN:∀b,N b->b<W.heap.size->N' b):MkS N' T W' v x:=by
 obtain⟨a,n,c,e,hn,h⟩:=h;refine⟨a,n,c,e,hn,λj hj=>?_⟩;obtain⟨b,cur,e,h1,h2,h3⟩:=h j hj;have hl:=vb4 h2;exact⟨b,cur,e,hN b h1 hl,(hk b h1 hl).trans h2,(World.cell?_of_block (w:=W) (a:=⟨b,j,none⟩) (hk b h1 hl)).trans h3⟩
end
structure HdAt(N:Nat->Prop)(W:World)(hb m:Nat):Prop where
 nb:N hb
 ty:∃cur,W.heap[hb]?=some (.cells cur 146 (0,0))
 lists:∃nv bv,W.cell? ⟨hb,0,none⟩=some nv/\W.cell? ⟨hb,1,none⟩=some bv/\MkS N 3 W nv (vn1 m)/\MkS N 5 W bv (vk1 m)
 mark:W.cell? ⟨hb,2,none⟩=some (.int .i64 (m:Int))
theorem HdAt.lt{N:Nat->Prop}{W:World}{hb m:Nat}(h:HdAt N W hb m):hb<W.heap.size:=by
 obtain⟨c,hc⟩:=h.ty;exact vb4 hc
theorem HdAt.keep{N N':Nat->Prop}{W W':World}{hb m:Nat}(h:HdAt N W hb m)(hk:∀b,N b->b<W.heap.size->W'.heap[b]?=W.heap[b]?)(hN:∀b,N b->b<W.heap.size->N' b):HdAt N' W' hb m:=by
 obtain⟨nv,bv,h0,h1,h2,h3⟩:=h.lists;have hc:∀i,W'.cell? ⟨hb,i,none⟩=W.cell? ⟨hb,i,none⟩:=λi=>World.cell?_of_block (w:=W) (a:=⟨hb,i,none⟩) (hk hb h.nb h.lt)
 obtain⟨cur,J9⟩:=h.ty;exact⟨hN hb h.nb h.lt,⟨cur,(hk hb h.nb h.lt).trans J9⟩,⟨nv,bv,(hc 0).trans h0,(hc 1).trans h1,h2.keep hk hN,h3.keep hk hN⟩,(hc 2).trans h.mark⟩
theorem HdAt.below{N:Nat->Prop}{W W':World}{hb m:Nat}(h:HdAt N W hb m)(eQ:Below W.heap.size W W'):HdAt N W' hb m:=h.keep (λb _ hl=>eQ.block b hl) (λ_ h _=>h)
theorem jw4{N:Nat->Prop}{W:World}{hb m:Nat}(h:HdAt N W hb m)(hm:m<=10000000000000):Calls prog 52 #[.pointer (some ⟨hb,0,none⟩)] W λe w'=>e=.returned (.bool true)/\Below W.heap.size W w':=by
 obtain⟨nv,bv,h0,h1,⟨na,nn,nc,rfl,I0,hn⟩,ba,bn,bc,rfl,eQ,aU⟩:=h.lists;have h2:=h.mark;have A1:=h.lt;have HN:=j3 hn;have HB:=j3 aU;have hw:wrap64 (-1099511627776 - (m:Int))=-1099511627776 - (m:Int):=by unfold wrap64;omega
 clear h hn aU;go_enter func52,ntmps52
 go_wp2_with fail
 go_loopw [3] (λi wr=>∃k:Nat,k<=nn/\i=.int .i64 k/\Hid (Below W.heap.size W wr)) (λi _=>nn - (intOf i).toNat)
 case atStart=>exact⟨0,Nat.zero_le _,rfl,j3 (Below.refl _ _)⟩
 case round=>
  obtain⟨k,hk,rfl,dS⟩:=hrel;obtain⟨U6,sK⟩:=qb0 (q9 dS);have uZ:=(q9 dS).size;have g0:=(U6 _ 0 A1).trans h0;have g1:=(U6 _ 1 A1).trans h1;have g2:=(U6 _ 2 A1).trans h2;have yH:hb<wr.heap.size:=by omega
  by_cases hl:k<nn
  ·obtain⟨b,cur,rfl,_,T4,hc⟩:=q9 HN k hl
   have A7:=vb4 T4;have R0:(0:Int)<=(k:Int):=by omega
   have A0:(k:Int)<(nn:Int):=by omega
   have cU:wr.cell? ⟨b,k,none⟩=some (.int .i64 (-1099511627776 - (m:Int))):=(U6 _ k A7).trans hc;have K9:b<wr.heap.size:=by omega
   clear hc U6 sK T4
   go_wp2_with fail
   go_quiet (fail)
   go_wp2_with fail
   go_roundw
   case rel=>exact⟨k+1,hl,by go_num,j3 (Go.below_drewN (q9 dS) _)⟩
   case measure=>simp[intOf];omega
  ·have Y9:¬(k:Int)<(nn:Int):=by omega
   clear U6 sK
   go_wp2_with fail
   clear g0 g1 g2 hk hl Y9 yH uZ
   go_loopw [4] (λi wr=>∃k:Nat,k<=bn/\i=.int .i64 k/\Hid (Below W.heap.size W wr)) (λi _=>bn - (intOf i).toNat)
   case atStart=>exact⟨0,Nat.zero_le _,rfl,dS⟩
   case round=>
    clear dS;obtain⟨k,hk,rfl,dS⟩:=hrel;obtain⟨U6,sK⟩:=qb0 (q9 dS);have uZ:=(q9 dS).size;have g0:=(U6 _ 0 A1).trans h0;have g1:=(U6 _ 1 A1).trans h1;have g2:=(U6 _ 2 A1).trans h2;have yH:hb<wr.heap.size:=by omega
    by_cases hl:k<bn
    ·obtain⟨b,cur,rfl,_,T4,hc⟩:=q9 HB k hl
     have A7:=vb4 T4;have R0:(0:Int)<=(k:Int):=by omega
     have A0:(k:Int)<(bn:Int):=by omega
     have cU:wr.cell? ⟨b,k,none⟩=some (.int .u8 ((m:Int) % 256)):=(U6 _ k A7).trans hc;have K9:b<wr.heap.size:=by omega
     clear hc U6 sK T4
     go_wp2_with fail
     go_quiet (fail)
     go_wp2_with fail
     go_roundw
     case rel=>exact⟨k+1,hl,by go_num,j3 (Go.below_drewN (q9 dS) _)⟩
     case measure=>simp[intOf];omega
    ·have Y9:¬(k:Int)<(bn:Int):=by omega
     clear U6 sK
     go_wp2_with fail
     go_ret;exact⟨rfl,q9 dS⟩
end
section
def hpV(h:Nat×Nat):Value:=.pointer (some ⟨h.1,0,none⟩)
structure HsAt(w W:World)(hv:Value)(hs:List (Nat×Nat)):Prop where
 bel:Below w.heap.size w W
 lt:w.heap.size<W.heap.size
 c0:W.cell? ⟨w.heap.size,0,none⟩=some (.slice none 0 0)
 c1:W.cell? ⟨w.heap.size,1,none⟩=some hv
 fz:∀i,W.frozen? ⟨w.heap.size,i,none⟩=false
 row:W.ownsRow (w.heap.size+1) 86 1 hv hs.length (hs.map hpV)
 each:∀h∈hs,HdAt (λk=>w.heap.size<k/\hv.ownBlock≠some k) W h.1 h.2/\h.2<=hs.length
section
variable {w W W':World} {hv:Value} {hs:List (Nat×Nat)}
theorem HsAt.below(h:HsAt w W hv hs)(hb:Below W.heap.size W W'):HsAt w W' hv hs:=by
 obtain⟨hc,hf⟩:=qb0 hb;have hl:=h.lt;exact⟨j6 h.bel hb,Nat.lt_of_lt_of_le hl hb.size,(hc _ _ hl).trans h.c0,(hc _ _ hl).trans h.c1,λi=>(hf _ i hl).trans (h.fz i),qc3 h.row hb (Nat.le_refl _),λx hx=>⟨(h.each x hx).1.below hb,(h.each x hx).2⟩⟩
theorem HsAt.start(w:World):HsAt w (w.alloc (.cells #[.slice none 0 0,.slice none 0 0] 61)) (.slice none 0 0) []:=
 ⟨(Below.refl _ _).alloc (Nat.le_refl _) _,by simp,by simp,by simp,λi=>by simp,World.ownsRow_nil _ _ _ _,λx hx=>by simp at hx⟩
theorem HsAt.form(h:HsAt w W hv hs):∃a c,hv=.slice a hs.length c:=by
 rcases h.row.2 with⟨rfl,h0⟩|⟨g,cap,cur,rfl,_⟩
 ·exact⟨none,0,by rw[h0]⟩
 ·exact⟨_,_,rfl⟩
theorem HsAt.cell(h:HsAt w W hv hs){k:Nat}{x:Nat×Nat}(hx:hs[k]?=some x):∃g cap,hv=.slice (some ⟨g,0,none⟩) hs.length cap/\g<W.heap.size/\W.cell? ⟨g,k,none⟩=some (hpV x):=by
 have hk:=(List.getElem?_eq_some_iff.1 hx).1;have h':=h.row;rcases h.row.2 with⟨rfl,h0⟩|⟨g,cap,cur,rfl,K7,J1,_⟩
 ·omega
 ·refine⟨g,cap,rfl,(Array.getElem?_eq_some_iff.1 J1).1, ?_⟩
  rw[World.ownsRow.cellAt h' k (by omega),List.getElem?_map,hx];rfl
end
theorem looks_any{w W:World}{hv:Value}{hs:List (Nat×Nat)}(h:HsAt w W hv hs)(hn:hs.length<=10000000000000):Calls prog 34 #[.pointer (some ⟨w.heap.size,0,none⟩)] W λe W'=>e=.returned (.bool true)/\HsAt w W' hv hs:=by
 have H:=j3 h;obtain⟨a,c,rfl⟩:=h.form;obtain⟨n,hl⟩:∃n,hs.length=n:=⟨_,rfl⟩;have HL:=j3 hl;rw[hl]at H hn ⊢;clear h hl;go_enter func34,ntmps34
 go_wp2_with fail
 go_loopw [3] (λi wr=>∃k:Nat,k<=n/\i=.int .i64 k/\Hid (HsAt w wr (.slice a n c) hs)) (λi _=>n - (intOf i).toNat)
 case atStart=>exact⟨0,Nat.zero_le _,rfl,H⟩
 case round=>
  clear H;obtain⟨k,hk,rfl,H⟩:=hrel;have c1:=(q9 H).c1;have A1:=(q9 H).lt
  by_cases hkl:k<n
  ·obtain⟨x,hx⟩:∃x,hs[k]?=some x:=⟨_,List.getElem?_eq_getElem (by have:=q9 HL;omega)⟩
   obtain⟨g,cap,e,hg,hc⟩:=(q9 H).cell hx;rw[q9 HL]at e;injection e with e _ _;subst e;obtain⟨hd,hm⟩:=(q9 H).each x (List.mem_of_getElem? hx);have jY:x.2<=10000000000000:=by have:=q9 HL;omega
   have MK:=j3 (jw4 hd jY);have cU:wr.cell? ⟨g,k,none⟩=some (.pointer (some ⟨x.1,0,none⟩)):=hc;have R0:(0:Int)<=(k:Int):=by omega
   have A0:(k:Int)<(n:Int):=by omega
   clear hc hd hx
   go_wp2_with(go_at_call 52;refine(q9 MK).mono ?_;rintro e w2⟨rfl,B9⟩;have H2:=j3 ((q9 H).below B9);clear B9)
   go_roundw
   case rel=>exact⟨k+1,hkl,by go_num,H2⟩
   case measure=>simp[intOf];omega
  ·have Y9:¬(k:Int)<(n:Int):=by omega
   go_wp2_with fail
   go_ret;exact⟨rfl,q9 H⟩
end
end Go.Proofs.YtfkcaldjphakpaaGreatDoor
