/- The document's answer: classes of nodes in their order are those of the term. -/
import Derived.Test.YtfkcaldjphakpaaGreatDoorE20
import Derived.Test.YtfkcaldjphakpaaGreatDoorE21
namespace Go.Proofs.YtfkcaldjphakpaaGreatDoor
open Go.RowKit
def wnt (o:Int):Int:=if 14≤o∧o≤19 then 2 else if 10≤o∧o≤13∨o=20 then 2 else if 5≤o∧o≤7 then 1 else -1
def hsc (o:Int):Int:=if o=0 then 0 else if o=1 then 2 else if o=2 then 3 else if 14≤o∧o≤19 then 2 else 1
def cc (c:Int):Int:=if c=1 then 2 else if c=2 then 3 else if c=3 then 1 else c
set_option maxHeartbeats 4000000 in
theorem vy0 (o:Int) (h0:0≤o) (h23:o≤23) (w:World) :
  Calls Tryz.prog 217 #[.string (BS (qc6 o))] w fun e w'=>e=.returned (.tuple #[.int .i64 (wnt o),.int .i64 (hsc o)])∧w'=w:=by
 have ho:o=0∨o=1∨o=2∨o=3∨o=4∨o=5∨o=6∨o=7∨o=8∨o=9∨o=10∨o=11∨o=12∨o=13∨o=14∨o=15∨o=16∨o=17∨o=18∨o=19∨o=20∨o=21∨o=22∨o=23:=by omega
 rcases ho with rfl|rfl|rfl|rfl|rfl|rfl|rfl|rfl|rfl|rfl|rfl|rfl|rfl|rfl|rfl|rfl|rfl|rfl|rfl|rfl|rfl|rfl|rfl|rfl
 all_goals
  simp only [BS,qc6,Int.reduceEq,if_true,if_false]
  go_enter Tryz.func217,Tryz.ntmps217
  go_wp2_with fail
  exact bodyPost_ret (by simp [results,Tryz.results217,go_sem];decide) rfl ⟨rfl,rfl⟩
def vw1 (l:List UInt8):Int:=(((List.range 24).find? fun i=>qc6 (Int.ofNat i)==l).getD 23:Nat)
theorem qw2 {o:Int} (h0:0≤o) (h23:o≤23):vw1 (qc6 o)=o:=by
 have:∀i:Fin 24,vw1 (qc6 (i.val:Int))=(i.val:Int):=by decide +kernel
 have:=this ⟨o.toNat,by omega⟩
 rwa [show ((o.toNat:Nat):Int)=o by omega] at this
def qh4 (cs:List Int) (k:Nat):Int:=cs.getD k 0
def qh5 (want c:Int):Bool:=decide (0≤want)&&c != 0&&c != want
def vm4 (cs:List Int) (n:RN):Bool:=
 (n.ins.any fun k=>qh5 (wnt (vw1 n.op)) (qh4 cs k))||((vw1 n.op==8||vw1 n.op==9)&&(qh4 cs (n.ins.getD 0 0) != qh4 cs (n.ins.getD 1 0)&&qh4 cs (n.ins.getD 0 0) != 0&&qh4 cs (n.ins.getD 1 0) != 0))
def qq3:List Int→List RN→Sum Int (List Int)
 | cs,[]=>.inr cs
 | cs,n::t=>if vm4 cs n=true then .inl n.at' else qq3 (cs++[hsc (vw1 n.op)]) t
theorem qp5 (cs:List Int) (l k:List RN):qq3 cs (l++k)=match qq3 cs l with
  | .inl q=>.inl q
  | .inr cs'=>qq3 cs' k:=by
 induction l generalizing cs with
 | nil=>rfl
 | cons n t ih=>
  rw [List.cons_append,qq3,qq3]
  split
  ·rfl
  ·exact ih _
def CEnd (cs:List Int) (l:List RN):CRes→Prop
 | .ok c=>∃ds,qq3 cs l=.inr (cs++ds)∧ds.length=l.length∧ds.getD (l.length - 1) 0=cc c
 | .err q=>qq3 cs l=.inl q
theorem qv1 (t:Ast):∀c,qc8 t=.ok c→0≤c∧c≤3:=by
 intro c h
 rw [qc4] at h
 generalize (j3 t).map qc8=rs at h
 generalize (qb4 t).place=pl at h
 have hd:∀w1 c1,0≤c1∧c1≤3→demR w1 pl c1 rs=.ok c→0≤c∧c≤3:=by
  intro w1 c1 h1 h2
  unfold demR at h2
  split at h2
  ·injection h2 with h2;omega
  ·cases h2
 unfold qm2 at h
 split at h
 ·injection h with h;omega
 split at h
 ·injection h with h;omega
 split at h
 ·injection h with h;omega
 split at h
 ·exact hd _ _ (by decide) h
 split at h
 ·exact hd _ _ (by decide) h
 split at h
 ·exact hd _ _ (by decide) h
 split at h
 ·split at h
  ·rename_i a b
   unfold qp2 at h
   split at h
   ·cases h
   ·cases h
   ·split at h
    ·cases h
    ·injection h with h;omega
  ·injection h with h;omega
 ·injection h with h;omega
theorem cend_ok {cs:List Int} {l:List RN} {c:Int} (ds:List Int) (h1:qq3 cs l=.inr (cs++ds)) (h2:ds.length=l.length) (h3:ds.getD (l.length - 1) 0=cc c):CEnd cs l (.ok c):=⟨ds,h1,h2,h3⟩
theorem qq8 {cs:List Int} {l:List RN} {ds:List Int} (h:qq3 cs l=.inr (cs++ds)) (n:RN):qq3 cs (l++[n])=if vm4 (cs++ds) n=true then .inl n.at' else .inr (cs++(ds++[hsc (vw1 n.op)])):=by
 rw [qp5,h]
 show qq3 (cs++ds) [n]=_
 rw [qq3]
 split
 ·rfl
 ·rw [qq3,List.append_assoc]
theorem jb7 {cs ds es:List Int} {k:Nat} (h:cs.length≤k) (h2:k<cs.length+ds.length):qh4 (cs++ds++es) k=ds.getD (k - cs.length) 0:=by
 unfold qh4
 rw [List.getD_eq_getElem?_getD,List.getD_eq_getElem?_getD,List.append_assoc,List.getElem?_append_right h,List.getElem?_append_left (by omega)]
section
variable {p:Pay} {cs:List Int}
theorem op_of {x:Int} {ins:List Nat} {neg:Bool} (h:p.op=x) (h0:0≤x) (h23:x≤23):vw1 (qi3 p ins neg).op=x:=by
 show vw1 (qc6 p.op)=x
 rw [h];exact qw2 h0 h23
theorem cls_leaf (off:Nat) (h:0≤p.op∧p.op≤4) (_:cs.length=off):CEnd cs [qi3 p [] false] (qc8 (.leaf p)):=by
 have ho:p.op=0∨p.op=1∨p.op=2∨p.op=3∨p.op=4:=by omega
 have key:∀x c,p.op=x→0≤x→x≤4→qm2 x p.place []=.ok c→hsc x=cc c→CEnd cs [qi3 p [] false] (qc8 (.leaf p)):=by
  intro x c hx h0 h4 hc hh
  rw [show qc8 (.leaf p)=.ok c by show qm2 p.op p.place []=_;rw [hx];exact hc]
  refine cend_ok [hsc x] ?_ rfl (by simpa using hh)
  rw [qq3,op_of hx h0 (by omega),if_neg,qq3]
  unfold vm4
  rw [op_of hx h0 (by omega)]
  have e8:(x==8||x==9)=false:=by
   rw [Bool.or_eq_false_iff];exact ⟨beq_eq_false_iff_ne.2 (by omega),beq_eq_false_iff_ne.2 (by omega)⟩
  rw [e8]
  show ¬((([]:List Nat).any _||_)=true)
  simp
 rcases ho with h|h|h|h|h
 ·exact key 0 0 h (by decide) (by decide) rfl rfl
 ·exact key 1 1 h (by decide) (by decide) rfl rfl
 ·exact key 2 2 h (by decide) (by decide) rfl rfl
 ·exact key 3 3 h (by decide) (by decide) rfl rfl
 ·exact key 4 3 h (by decide) (by decide) rfl rfl
end
end Go.Proofs.YtfkcaldjphakpaaGreatDoor
