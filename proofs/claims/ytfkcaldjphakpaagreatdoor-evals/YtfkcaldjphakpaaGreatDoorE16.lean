/- The document's answer: a text has to come. The document's answer: a reader that may have an error; what IN's loop keeps. -/
import Derived.Test.YtfkcaldjphakpaaGreatDoorWRq21
import Derived.Test.YtfkcaldjphakpaaGreatDoorE06
set_option maxHeartbeats 2000000
namespace Go.Proofs.YtfkcaldjphakpaaGreatDoor
open Go.RowKit
section
theorem TrC.other {w:World} {rb:Nat} {nv:Value} {s:ByteArray} {k a z:Int} {S:ByteArray} {n op er at':Int} (h:TrC w rb nv s k a z S n op er at') {b:Nat} (hb:¬b=rb) (i:Nat) (u:Value):TrC (w.setCell ⟨b,i,none⟩ u) rb nv s k a z S n op er at':=
 ((But.refl b w).set i u).tr (fun e=>hb e.symm) h
section
variable {w:World} {rb:Nat} {nv:Value} {s:ByteArray} {k a z:Int} {p:Nat} {S:ByteArray} {n op er at':Int}
theorem vq3 (h:TrC w rb nv s 4 a p S n op 0 at') (hs:s.size≤200) (hp:p≤s.size) {k' a' z':Int} {S':ByteArray} {n':Int} (hT:NextIs s p k' a' z' S' n') :
  Calls Tryz.prog 344 #[.pointer (some ⟨rb,0,none⟩)] w fun e w'=>e=.returned (.agg #[.int .i64 4,.int .i64 a,.int .i64 p,.string S,.int .i64 n])∧TrC w' rb nv s k' a' z' S' n' op 0 at'∧Kept rb w w':=by
 have n0:¬w.heap.size=rb:=by have:=h.lt;omega
 have n1:¬rb=w.heap.size:=by have:=h.lt;omega
 have n2:¬w.heap.size+1=rb:=by have:=h.lt;omega
 have n3:¬rb=w.heap.size+1:=by have:=h.lt;omega
 have ST:=v7 (qp4 (w:=((w.alloc (.cells #[.int .i64 0,.int .i64 0,.int .i64 0,.string ⟨#[]⟩,.int .i64 0] 235)).alloc (.cells #[.int .i64 4,.int .i64 a,.int .i64 p,.string S,.int .i64 n] 235))) ((h.alloc _).alloc _) hs hp hT)
 obtain ⟨lt,c0,c1,c2,c3,c4,c5,c6,c7,c8,c9,fz⟩:=h
 clear hT
 go_enter Tryz.func344,Tryz.ntmps344
 go_wp2_with (go_at_call 172;refine (q9 ST).mono ?_;rintro e w1 ⟨rfl,ht1,hk1⟩;obtain ⟨hc,hf⟩:=qa5 hk1;have p0:w1.cell? ⟨w.heap.size+1,0,none⟩=some (.int .i64 4):=(hc _ 0 (by simp) n2).trans (by simp);have p1:w1.cell? ⟨w.heap.size+1,1,none⟩=some (.int .i64 a):=(hc _ 1 (by simp) n2).trans (by simp);have p2:w1.cell? ⟨w.heap.size+1,2,none⟩=some (.int .i64 p):=(hc _ 2 (by simp) n2).trans (by simp);have p3:w1.cell? ⟨w.heap.size+1,3,none⟩=some (.string S):=(hc _ 3 (by simp) n2).trans (by simp);have p4:w1.cell? ⟨w.heap.size+1,4,none⟩=some (.int .i64 n):=(hc _ 4 (by simp) n2).trans (by simp);have r0:w1.cell? ⟨w.heap.size,0,none⟩=some (.int .i64 0):=(hc _ 0 (by simp;omega) n0).trans (by simp);have r1:w1.cell? ⟨w.heap.size,1,none⟩=some (.int .i64 0):=(hc _ 1 (by simp;omega) n0).trans (by simp);have r2:w1.cell? ⟨w.heap.size,2,none⟩=some (.int .i64 0):=(hc _ 2 (by simp;omega) n0).trans (by simp);have r3:w1.cell? ⟨w.heap.size,3,none⟩=some (.string ⟨#[]⟩):=(hc _ 3 (by simp;omega) n0).trans (by simp);have r4:w1.cell? ⟨w.heap.size,4,none⟩=some (.int .i64 0):=(hc _ 4 (by simp;omega) n0).trans (by simp);have rz:∀i,w1.frozen? ⟨w.heap.size,i,none⟩=false:=fun i=>(hf _ i (by simp;omega) n0).trans (by simp);have HK1:=v7 ((((Kept.refl rb w).alloc _).alloc _).trans hk1);have HT1:=v7 ht1;clear hk1 ht1 hc hf)
 all_goals go_wp2_with fail
 refine bodyPost_ret (by simp [results,Tryz.results344,go_sem,r0,r1,r2,r3,r4]) rfl ⟨rfl,(((((q9 HT1).other (b:=w.heap.size) n0 0 _).other n0 1 _).other n0 2 _).other n0 3 _).other n0 4 _,(((((q9 HK1).far (p:=⟨w.heap.size,0,none⟩) (Nat.le_refl _) _).far (p:=⟨w.heap.size,1,none⟩) (Nat.le_refl _) _).far (p:=⟨w.heap.size,2,none⟩) (Nat.le_refl _) _).far (p:=⟨w.heap.size,3,none⟩) (Nat.le_refl _) _).far (p:=⟨w.heap.size,4,none⟩) (Nat.le_refl _) _⟩
theorem vq2 (h:TrC w rb nv s k a z S n op 0 at') (hk:k≠4) :
  Calls Tryz.prog 344 #[.pointer (some ⟨rb,0,none⟩)] w fun e w'=>e=.returned (.agg #[.int .i64 k,.int .i64 a,.int .i64 z,.string S,.int .i64 n])∧TrC w' rb nv s 1 a 0 ⟨#[]⟩ 0 op 2 a∧Kept rb w w':=by
 have n0:¬w.heap.size=rb:=by have:=h.lt;omega
 have n1:¬rb=w.heap.size:=by have:=h.lt;omega
 have n2:¬w.heap.size+1=rb:=by have:=h.lt;omega
 have n3:¬rb=w.heap.size+1:=by have:=h.lt;omega
 have FL:=v7 (qs0 (w:=((w.alloc (.cells #[.int .i64 0,.int .i64 0,.int .i64 0,.string ⟨#[]⟩,.int .i64 0] 235)).alloc (.cells #[.int .i64 k,.int .i64 a,.int .i64 z,.string S,.int .i64 n] 235))) ((h.alloc _).alloc _) 2 a)
 obtain ⟨lt,c0,c1,c2,c3,c4,c5,c6,c7,c8,c9,fz⟩:=h
 go_enter Tryz.func344,Tryz.ntmps344
 go_wp2_with (go_at_call 174;refine (q9 FL).mono ?_;rintro e w1 ⟨rfl,ht1,hk1⟩;obtain ⟨hc,hf⟩:=qa5 hk1;have p0:w1.cell? ⟨w.heap.size+1,0,none⟩=some (.int .i64 k):=(hc _ 0 (by simp) n2).trans (by simp);have p1:w1.cell? ⟨w.heap.size+1,1,none⟩=some (.int .i64 a):=(hc _ 1 (by simp) n2).trans (by simp);have p2:w1.cell? ⟨w.heap.size+1,2,none⟩=some (.int .i64 z):=(hc _ 2 (by simp) n2).trans (by simp);have p3:w1.cell? ⟨w.heap.size+1,3,none⟩=some (.string S):=(hc _ 3 (by simp) n2).trans (by simp);have p4:w1.cell? ⟨w.heap.size+1,4,none⟩=some (.int .i64 n):=(hc _ 4 (by simp) n2).trans (by simp);have r0:w1.cell? ⟨w.heap.size,0,none⟩=some (.int .i64 0):=(hc _ 0 (by simp;omega) n0).trans (by simp);have r1:w1.cell? ⟨w.heap.size,1,none⟩=some (.int .i64 0):=(hc _ 1 (by simp;omega) n0).trans (by simp);have r2:w1.cell? ⟨w.heap.size,2,none⟩=some (.int .i64 0):=(hc _ 2 (by simp;omega) n0).trans (by simp);have r3:w1.cell? ⟨w.heap.size,3,none⟩=some (.string ⟨#[]⟩):=(hc _ 3 (by simp;omega) n0).trans (by simp);have r4:w1.cell? ⟨w.heap.size,4,none⟩=some (.int .i64 0):=(hc _ 4 (by simp;omega) n0).trans (by simp);have rz:∀i,w1.frozen? ⟨w.heap.size,i,none⟩=false:=fun i=>(hf _ i (by simp;omega) n0).trans (by simp);have HK1:=v7 ((((Kept.refl rb w).alloc _).alloc _).trans hk1);have HT1:=v7 ht1;clear hk1 ht1 hc hf)
 all_goals go_wp2_with fail
 refine bodyPost_ret (by simp [results,Tryz.results344,go_sem,r0,r1,r2,r3,r4]) rfl ⟨rfl,(((((q9 HT1).other (b:=w.heap.size) n0 0 _).other n0 1 _).other n0 2 _).other n0 3 _).other n0 4 _,(((((q9 HK1).far (p:=⟨w.heap.size,0,none⟩) (Nat.le_refl _) _).far (p:=⟨w.heap.size,1,none⟩) (Nat.le_refl _) _).far (p:=⟨w.heap.size,2,none⟩) (Nat.le_refl _) _).far (p:=⟨w.heap.size,3,none⟩) (Nat.le_refl _) _).far (p:=⟨w.heap.size,4,none⟩) (Nat.le_refl _) _⟩
theorem je9 (h:TrC w rb nv s 1 a z S n op er at') (he:er≠0) :
  Calls Tryz.prog 344 #[.pointer (some ⟨rb,0,none⟩)] w fun e w'=>e=.returned (.agg #[.int .i64 1,.int .i64 a,.int .i64 z,.string S,.int .i64 n])∧TrC w' rb nv s 1 a 0 ⟨#[]⟩ 0 op er at'∧Kept rb w w':=by
 have n0:¬w.heap.size=rb:=by have:=h.lt;omega
 have n1:¬rb=w.heap.size:=by have:=h.lt;omega
 have n2:¬w.heap.size+1=rb:=by have:=h.lt;omega
 have n3:¬rb=w.heap.size+1:=by have:=h.lt;omega
 have FL:=v7 (vc7 (w:=((w.alloc (.cells #[.int .i64 0,.int .i64 0,.int .i64 0,.string ⟨#[]⟩,.int .i64 0] 235)).alloc (.cells #[.int .i64 1,.int .i64 a,.int .i64 z,.string S,.int .i64 n] 235))) ((h.alloc _).alloc _) he 2 a)
 obtain ⟨lt,c0,c1,c2,c3,c4,c5,c6,c7,c8,c9,fz⟩:=h
 clear he
 go_enter Tryz.func344,Tryz.ntmps344
 go_wp2_with (go_at_call 174;refine (q9 FL).mono ?_;rintro e w1 ⟨rfl,ht1,hk1⟩;obtain ⟨hc,hf⟩:=qa5 hk1;have p0:w1.cell? ⟨w.heap.size+1,0,none⟩=some (.int .i64 1):=(hc _ 0 (by simp) n2).trans (by simp);have p1:w1.cell? ⟨w.heap.size+1,1,none⟩=some (.int .i64 a):=(hc _ 1 (by simp) n2).trans (by simp);have p2:w1.cell? ⟨w.heap.size+1,2,none⟩=some (.int .i64 z):=(hc _ 2 (by simp) n2).trans (by simp);have p3:w1.cell? ⟨w.heap.size+1,3,none⟩=some (.string S):=(hc _ 3 (by simp) n2).trans (by simp);have p4:w1.cell? ⟨w.heap.size+1,4,none⟩=some (.int .i64 n):=(hc _ 4 (by simp) n2).trans (by simp);have r0:w1.cell? ⟨w.heap.size,0,none⟩=some (.int .i64 0):=(hc _ 0 (by simp;omega) n0).trans (by simp);have r1:w1.cell? ⟨w.heap.size,1,none⟩=some (.int .i64 0):=(hc _ 1 (by simp;omega) n0).trans (by simp);have r2:w1.cell? ⟨w.heap.size,2,none⟩=some (.int .i64 0):=(hc _ 2 (by simp;omega) n0).trans (by simp);have r3:w1.cell? ⟨w.heap.size,3,none⟩=some (.string ⟨#[]⟩):=(hc _ 3 (by simp;omega) n0).trans (by simp);have r4:w1.cell? ⟨w.heap.size,4,none⟩=some (.int .i64 0):=(hc _ 4 (by simp;omega) n0).trans (by simp);have rz:∀i,w1.frozen? ⟨w.heap.size,i,none⟩=false:=fun i=>(hf _ i (by simp;omega) n0).trans (by simp);have HK1:=v7 ((((Kept.refl rb w).alloc _).alloc _).trans hk1);have HT1:=v7 ht1;clear hk1 ht1 hc hf)
 all_goals go_wp2_with fail
 refine bodyPost_ret (by simp [results,Tryz.results344,go_sem,r0,r1,r2,r3,r4]) rfl ⟨rfl,(((((q9 HT1).other (b:=w.heap.size) n0 0 _).other n0 1 _).other n0 2 _).other n0 3 _).other n0 4 _,(((((q9 HK1).far (p:=⟨w.heap.size,0,none⟩) (Nat.le_refl _) _).far (p:=⟨w.heap.size,1,none⟩) (Nat.le_refl _) _).far (p:=⟨w.heap.size,2,none⟩) (Nat.le_refl _) _).far (p:=⟨w.heap.size,3,none⟩) (Nat.le_refl _) _).far (p:=⟨w.heap.size,4,none⟩) (Nat.le_refl _) _⟩
end
end
section
inductive PS where
 | st (x:St)
 | er (en pl:Int)
def AT (w:World) (rb:Nat) (nv:Value) (s:ByteArray) (op:Nat):PS→Prop
 | .st x=>TrC w rb nv s (rK x.tk.kind) x.place (tkZ x) (BS (tkS x)) (tkN x) op 0 0∧Fine s x∧x.op=op
 | .er en pl=>en≠0∧∃a,TrC w rb nv s 1 a 0 ⟨#[]⟩ 0 op en pl
def vp6 (s:ByteArray) (c:Int):PS→PS
 | .st x=>if x.tk.kind=c then .st (v6 s x) else .er 2 x.place
 | .er en pl=>.er en pl
def vk0 (s:ByteArray):PS→PS
 | .st x=>if x.tk.kind=4 then .st (v6 s x) else .er 2 x.place
 | .er en pl=>.er en pl
theorem vh6 {s:ByteArray} {c:Int} {y:St} (h:y.tk.kind=c):vp6 s c (.st y)=.st (v6 s y):=if_pos h
theorem vh5 {s:ByteArray} {c:Int} {y:St} (h:¬y.tk.kind=c):vp6 s c (.st y)=.er 2 y.place:=if_neg h
theorem va9 {s:ByteArray} {y:St} (h:y.tk.kind=4):vk0 s (.st y)=.st (v6 s y):=if_pos h
theorem va8 {s:ByteArray} {y:St} (h:¬y.tk.kind=4):vk0 s (.st y)=.er 2 y.place:=if_neg h
def strP:PS→ByteArray→Prop
 | .st x,S=>S=BS (tkS x)
 | .er _ _,_=>True
section
variable {w:World} {rb:Nat} {nv:Value} {s:ByteArray} {op:Nat} {x:PS}
theorem AT.lt (h:AT w rb nv s op x):rb<w.heap.size:=by
 cases x with
 | st x=>exact h.1.lt
 | er en pl=>obtain ⟨_,a,h⟩:=h;exact h.lt
theorem AT.c0 (h:AT w rb nv s op x):w.cell? ⟨rb,0,none⟩=some nv:=by
 cases x with
 | st x=>exact h.1.c0
 | er en pl=>obtain ⟨_,a,h⟩:=h;exact h.c0
theorem AT.tr {w':World} {L:Nat} (h:AT w rb nv s op x) (hb:But L w w') (hL:rb≠L):AT w' rb nv s op x:=by
 cases x with
 | st x=>exact ⟨hb.tr hL h.1,h.2⟩
 | er en pl=>obtain ⟨he,a,h⟩:=h;exact ⟨he,a,hb.tr hL h⟩
theorem tstep {y:St} (h:AT w rb nv s op (.st y)) (hs:s.size≤200) (h1:y.tk.kind≠1) :
  Calls Tryz.prog 172 #[.pointer (some ⟨rb,0,none⟩)] w fun e w'=>e=.returned (.tuple #[])∧Kept rb w w'∧AT w' rb nv s op (.st (v6 s y)):=by
 obtain ⟨hT,hF,ho⟩:=h
 rw [show tkZ y=(y.after:Int) by unfold tkZ;rw [if_neg h1]] at hT
 refine (qp4 hT hs hF.after (qp9 s y)).mono ?_
 rintro e w' ⟨rfl,hT',hK⟩
 exact ⟨rfl,hK,hT',x8 s y hF.after,ho⟩
theorem tmust (h:AT w rb nv s op x) (hs:s.size≤200) (c:Int) {kind:Int} {X:ByteArray} (hX:kwT c=X.data.toList) (h5:5≤c) (h28:c≤28) (hk:rK c=kind) :
  Calls Tryz.prog 343 #[.pointer (some ⟨rb,0,none⟩),.int .i64 kind,.string X] w fun e w'=>e=.returned (.tuple #[])∧Kept rb w w'∧AT w' rb nv s op (vp6 s c x):=by
 cases x with
 | st y=>
  have hi:=isK (st:=y) hX h5 h28 kind hk
  obtain ⟨hT,hF,ho⟩:=h
  by_cases hc:y.tk.kind=c
  ·rw [vh6 hc]
   rw [hc,beq_self_eq_true] at hi
   rw [show tkZ y=(y.after:Int) by unfold tkZ;rw [if_neg (by omega)]] at hT
   have hb:(rK c==kind)=true∧((BS (tkS y)).toList==X.toList)=true:=by simpa using hi
   refine (ja3 hT hs hF.after (qp9 s y) kind X (by rw [hc];exact hk) hb.2).mono ?_
   rintro e w' ⟨rfl,hT',hK⟩
   exact ⟨rfl,hK,hT',x8 s y hF.after,ho⟩
  ·rw [vh5 hc]
   rw [show (y.tk.kind==c)=false from beq_eq_false_iff_ne.2 hc] at hi
   refine (vj1 hT kind X hi).mono ?_
   rintro e w' ⟨rfl,hT',hK⟩
   exact ⟨rfl,hK,by decide,_,hT'⟩
 | er en pl=>
  obtain ⟨he,a,hT⟩:=h
  refine (vq8 hT he kind X (by rw [←hk];unfold rK;rw [if_neg (by omega)];split<;>decide)).mono ?_
  rintro e w' ⟨rfl,hT',hK⟩
  exact ⟨rfl,hK,he,a,hT'⟩
theorem ttext (h:AT w rb nv s op x) (hs:s.size≤200) :
  Calls Tryz.prog 344 #[.pointer (some ⟨rb,0,none⟩)] w fun e w'=>∃(k a z:Int) (S:ByteArray) (n:Int),e=.returned (.agg #[.int .i64 k,.int .i64 a,.int .i64 z,.string S,.int .i64 n])∧Kept rb w w'∧AT w' rb nv s op (vk0 s x)∧strP x S:=by
 cases x with
 | st y=>
  obtain ⟨hT,hF,ho⟩:=h
  by_cases hc:y.tk.kind=4
  ·rw [va9 hc]
   rw [show tkZ y=(y.after:Int) by unfold tkZ;rw [if_neg (by omega)],show rK y.tk.kind=4 by rw [hc];rfl] at hT
   refine (vq3 hT hs hF.after (qp9 s y)).mono ?_
   rintro e w' ⟨rfl,hT',hK⟩
   exact ⟨_,_,_,_,_,rfl,hK,⟨hT',x8 s y hF.after,ho⟩,rfl⟩
  ·rw [va8 hc]
   refine (vq2 hT (by unfold rK;split<;>(try split)<;>omega)).mono ?_
   rintro e w' ⟨rfl,hT',hK⟩
   exact ⟨_,_,_,_,_,rfl,hK,⟨by decide,_,hT'⟩,rfl⟩
 | er en pl=>
  obtain ⟨he,a,hT⟩:=h
  refine (je9 hT he).mono ?_
  rintro e w' ⟨rfl,hT',hK⟩
  exact ⟨_,_,_,_,_,rfl,hK,⟨he,a,hT'⟩,trivial⟩
theorem tadd (h:AT w rb nv s op x) {ns:List RN} (hN:NodesAt w rb nv ns) (hn:ns.length≤100000) (p:Pay) (hp:p.num=0) (ins:List Nat) (neg:Bool) {N S E:ByteArray} {iv lv:Value} (hNN:BS (qc6 p.op)=N) (hS:BS p.str=S) (hE:BS p.esc=E) (hi:RowOf w rb 3 iv (qv6 ins)) (hl:RowOf w rb 9 lv (x9 p.texts)) :
  Calls Tryz.prog 216 #[.pointer (some ⟨rb,0,none⟩),.agg #[.string N,.int .i64 p.place,iv,.string S,.string E,lv,.int .i64 0,.bool neg,.int .i64 0]] w
   fun e w'=>e=.returned (.int .i64 ns.length)∧TKept rb w w'∧∃nv',AT w' rb nv' s op x∧NodesAt w' rb nv' (ns++[qi3 p ins neg]):=by
 subst hNN hS hE
 have e4:(qi3 p ins neg).num=p.num:=rfl
 cases x with
 | st y=>
  have:=qw4 h.1 hN (qi3 p ins neg) hi hl hn
  rw [e4,hp] at this
  refine this.mono ?_
  rintro e w' ⟨rfl,hK,nv',hT',hN'⟩
  exact ⟨rfl,hK,nv',⟨hT',h.2⟩,hN'⟩
 | er en pl=>
  obtain ⟨he,a,hT⟩:=h
  have:=qw4 hT hN (qi3 p ins neg) hi hl hn
  rw [e4,hp] at this
  refine this.mono ?_
  rintro e w' ⟨rfl,hK,nv',hT',hN'⟩
  exact ⟨rfl,hK,nv',⟨he,a,hT'⟩,hN'⟩
end
structure Mid (rb L:Nat) (w w':World):Prop where
 os:w'.os=w.os
 tape:w'.tape=w.tape
 output:w'.output=w.output
 size:w.heap.size≤w'.heap.size
 block:∀k,k<w.heap.size→k≠rb→k≠L→w'.heap[k]?=w.heap[k]?
section
variable {L rb:Nat} {w w' w'':World} {ty:TypeId} {cs:Array Value}
theorem Mid.refl (rb L:Nat) (w:World):Mid rb L w w:=⟨rfl,rfl,rfl,Nat.le_refl _,fun _ _ _ _=>rfl⟩
theorem Mid.kept (h:Mid rb L w w') (k:Kept rb w' w''):Mid rb L w w'':=⟨k.os.trans h.os,k.tape.trans h.tape,k.output.trans h.output,Nat.le_trans h.size k.size,fun i hi hr hn=>(k.block i (Nat.lt_of_lt_of_le hi h.size) hr).trans (h.block i hi hr hn)⟩
theorem Mid.but (h:Mid rb L w w') (k:But L w' w''):Mid rb L w w'':=⟨k.os.trans h.os,k.tape.trans h.tape,k.output.trans h.output,Nat.le_trans h.size k.size,fun i hi hr hn=>(k.block i (Nat.lt_of_lt_of_le hi h.size) hn).trans (h.block i hi hr hn)⟩
theorem Mid.far (h:Mid rb L w w') {p:Addr} (hp:w.heap.size≤p.block) (u:Value):Mid rb L w (w'.setCell p u):=⟨h.os,h.tape,h.output,by have:=h.size;simpa using this,fun i hi hr hn=>(Below.heap_setCell w' p u i (by omega)).trans (h.block i hi hr hn)⟩
theorem Mid.grown (h:Mid rb L w w') {row:Option Nat} (hg:w'.grownBy w'' row) (hr:∀g,row=some g→w.heap.size≤g):Mid rb L w w'':=
 ⟨hg.os.trans h.os,hg.tape.trans h.tape,hg.output.trans h.output,Nat.le_trans h.size hg.size,fun k hk hrb hn=>(hg.block k (Nat.lt_of_lt_of_le hk h.size) (fun e=>by have:=hr k e.symm;omega)).trans (h.block k hk hrb hn)⟩
theorem vz7 {nv:Value} (c:w.cell? ⟨rb,0,none⟩=some nv) (c':w'.cell? ⟨rb,0,none⟩=some nv) (k:Nat):qv5 w' rb k↔qv5 w rb k:=by unfold qv5;rw [c,c']
theorem Mid.row {nv:Value} (h:Mid rb L w w') (c:w.cell? ⟨rb,0,none⟩=some nv) (c':w'.cell? ⟨rb,0,none⟩=some nv) (hv:VN w rb L ty cs) {ty':TypeId} (hne:ty'≠ty) {v:Value} {vs:List Value} (hr:RowOf w rb ty' v vs):RowOf w' rb ty' v vs:=by
 rcases hr with hr|⟨g,cap,c1,fr,hv',hg,hc,ho,hx⟩
 ·exact .inl hr
 ·have hgL:g≠L:=fun e=>by subst e;rw [hv.blk] at hc;injection hc with e;injection e with _ e2 _;exact hne e2.symm
  have hglt:=(Array.getElem?_eq_some_iff.1 hc).1
  exact .inr ⟨g,cap,c1,fr,hv',hg,(h.block g hglt (by omega) hgL).trans hc,fun h2=>ho ((vz7 c c' g).1 h2),hx⟩
theorem Mid.nodes {nv:Value} {ns:List RN} (h:Mid rb L w w') (c:w.cell? ⟨rb,0,none⟩=some nv) (c':w'.cell? ⟨rb,0,none⟩=some nv) (hv:VN w rb L ty cs) (h1:(3:TypeId)≠ty) (h2:(9:TypeId)≠ty) (hN:NodesAt w rb nv ns):NodesAt w' rb nv ns:=by
 obtain ⟨rs,hl,ho,hn⟩:=hN
 refine ⟨rs,hl,qt9 ho fun g hg=>h.block g (ho.lt g hg).2 (by have:=(ho.lt g hg).1;omega) (fun e=>hv.no (.inr ⟨nv,c,e ▸ hg⟩)),fun i n r e1 e2=>⟨h.row c c' hv h1 (hn i n r e1 e2).1,h.row c c' hv h2 (hn i n r e1 e2).2⟩⟩
theorem TKept.mid {a:World} {nv:Value} (hk:TKept rb a w) (h:Mid rb L w w') (c:w.cell? ⟨rb,0,none⟩=some nv) (c':w'.cell? ⟨rb,0,none⟩=some nv) (hp:a.heap.size≤L):TKept rb a w':=
 ⟨h.os.trans hk.os,h.tape.trans hk.tape,h.output.trans hk.output,Nat.le_trans hk.size h.size,fun k hk1 hn=>(h.block k (Nat.lt_of_lt_of_le hk1 hk.size) (fun e=>hn (.inl e)) (by omega)).trans (hk.block k hk1 hn),fun k hk1 ho=>hk.own k hk1 ((vz7 c c' k).1 ho)⟩
end
structure AmV (W:World) (rb L Tb:Nat) (cs:Value→Array Value) (lv:Value) (ts:List (List UInt8)) (wr:World):Prop where
 mid:Mid rb L W wr
 nb:wr.heap[L]?=some (.cells (cs lv) 241 (0,0))
 tb:∃k a z S n,wr.heap[Tb]?=some (.cells #[.int .i64 k,.int .i64 a,.int .i64 z,.string S,.int .i64 n] 235 (0,0))
 tp:W.heap.size≤Tb
 row:wr.ownsRow W.heap.size 9 1 lv ts.length (x9 ts)
section
variable {W:World} {rb L Tb:Nat} {cs:Value→Array Value} {lv:Value} {ts:List (List UInt8)} {wr w':World}
theorem AmV.kept (h:AmV W rb L Tb cs lv ts wr) (hL:L<W.heap.size) (hrb:rb<L) (hk:Kept rb wr w'):AmV W rb L Tb cs lv ts w':=by
 obtain ⟨mid,nb,⟨k,a,z,S,n,tb⟩,tp,row⟩:=h
 have hz:=mid.size
 have hT:=(Array.getElem?_eq_some_iff.1 tb).1
 exact ⟨mid.kept hk,(hk.block L (by omega) (by omega)).trans nb,⟨k,a,z,S,n,(hk.block Tb hT (by omega)).trans tb⟩,tp,qt9 row fun g hg=>hk.block g (row.lt g hg).2 (by have:=(row.lt g hg).1;omega)⟩
theorem qr1 {w:World} {b:Nat} {c:Array Value} {ty:TypeId} (h:w.heap[b]?=some (.cells c ty (0,0))):(∀i,w.cell? ⟨b,i,none⟩=c[i]?)∧∀i,w.frozen? ⟨b,i,none⟩=false:=
 ⟨fun i=>by simp [World.cell?,h],fun i=>by simp [World.frozen?,h]⟩
theorem qv2 {w:World} {b:Nat} {c:Array Value} {ty:TypeId} (h:w.heap[b]?=some (.cells c ty (0,0))) (i:Nat) (u:Value):(w.setCell ⟨b,i,none⟩ u).heap[b]?=some (.cells (c.setIfInBounds i u) ty (0,0)):=by
 simp [World.setCell,Array.getElem?_modify,h]
theorem AmV.tok (h:AmV W rb L Tb cs lv ts wr) (hL:L<W.heap.size) (k a z:Int) (S:ByteArray) (n:Int) :
  AmV W rb L Tb cs lv ts (((((wr.setCell ⟨Tb,0,none⟩ (.int .i64 k)).setCell ⟨Tb,1,none⟩ (.int .i64 a)).setCell ⟨Tb,2,none⟩ (.int .i64 z)).setCell ⟨Tb,3,none⟩ (.string S)).setCell ⟨Tb,4,none⟩ (.int .i64 n)):=by
 obtain ⟨mid,nb,⟨k0,a0,z0,S0,n0,tb⟩,tp,row⟩:=h
 have hne:∀g,lv.ownBlock=some g→g≠Tb:=by
  intro g hg e
  obtain ⟨_,hx|⟨g',cap,cur,rfl,_,hgg,_⟩⟩:=row
  ·rw [hx.1] at hg;cases hg
  ·injection hg with hg
   subst hg
   subst e
   rw [tb] at hgg
   injection hgg with e
   injection e with _ e2 _
   exact absurd e2 (by decide)
 have hLT:L≠Tb:=by omega
 refine ⟨((((mid.far (p:=⟨Tb,0,none⟩) tp _).far (p:=⟨Tb,1,none⟩) tp _).far (p:=⟨Tb,2,none⟩) tp _).far (p:=⟨Tb,3,none⟩) tp _).far (p:=⟨Tb,4,none⟩) tp _, ?_,⟨k,a,z,S,n,qv2 (qv2 (qv2 (qv2 (qv2 tb 0 _) 1 _) 2 _) 3 _) 4 _⟩,tp,qt9 row fun g hg=>?_⟩
 ·rw [Below.heap_setCell _ ⟨Tb,4,none⟩ _ L hLT,Below.heap_setCell _ ⟨Tb,3,none⟩ _ L hLT,Below.heap_setCell _ ⟨Tb,2,none⟩ _ L hLT,Below.heap_setCell _ ⟨Tb,1,none⟩ _ L hLT,Below.heap_setCell _ ⟨Tb,0,none⟩ _ L hLT];exact nb
 ·have hg':=hne g hg
  rw [Below.heap_setCell _ ⟨Tb,4,none⟩ _ g hg',Below.heap_setCell _ ⟨Tb,3,none⟩ _ g hg',Below.heap_setCell _ ⟨Tb,2,none⟩ _ g hg',Below.heap_setCell _ ⟨Tb,1,none⟩ _ g hg',Below.heap_setCell _ ⟨Tb,0,none⟩ _ g hg']
theorem AmV.app (h:AmV W rb L Tb cs lv ts wr) (hL:L<W.heap.size) (hrb:rb<L) (hcs:∀u v,(cs u).setIfInBounds 5 v=cs v) (hn:ts.length≤1000) (S:ByteArray) :
  ∃g cap w6,(appR #[62,62] 62 #[lv,.slice (some ⟨wr.heap.size,0,none⟩) 1 1]).run Tryz.prog (wr.alloc (.cells #[.string S] 9))=.ok (.slice (some ⟨g,0,none⟩) (ts.length+1) cap) w6 ∧
   w6.heap[L]?=some (.cells (cs lv) 241 (0,0))∧(w6.heap[rb]?=wr.heap[rb]?)∧wr.heap.size≤w6.heap.size ∧
   AmV W rb L Tb cs (.slice (some ⟨g,0,none⟩) (ts.length+1) cap) (ts++[S.data.toList]) (w6.setCell ⟨L,5,none⟩ (.slice (some ⟨g,0,none⟩) (ts.length+1) cap)):=by
 obtain ⟨mid,nb,⟨k0,a0,z0,S0,n0,tb⟩,tp,row⟩:=h
 obtain ⟨i,hi,hz0,hz1,hz2⟩:=info_parts vb5
 have hz:=mid.size
 have hTlt:=(Array.getElem?_eq_some_iff.1 tb).1
 have hb:Below wr.heap.size wr (wr.alloc (.cells #[.string S] 9)):=(Below.refl _ _).alloc (Nat.le_refl _) _
 obtain ⟨g,cap,w6,hr,ho',hgr,_,_⟩:=run_append_lies (P:=Tryz.prog) (wr.alloc (.cells #[.string S] 9)) 62 62 W.heap.size 9 i _ 1 16 Tryz.underlying62 hi hz0 hz1 hz2 rfl (by omega) lv ts.length _ (World.ownsRow.alloc row _) ⟨wr.heap.size,0,none⟩ 1 1 [.string S] rfl
  (by
   intro j u hu
   rcases j with _|j
   ·simp at hu;subst hu;simp [Addr.add]
   ·simp at hu) (by simp [Value.oneCell']) (by omega) (by unfold maxLen;omega) (by omega) (by simp;omega) _ rfl
 have hne:∀g,lv.ownBlock=some g→g≠Tb∧W.heap.size≤g:=by
  intro g hg
  refine ⟨fun e=>?_,(row.lt g hg).1⟩
  obtain ⟨_,hx|⟨g',cap,cur,rfl,_,hgg,_⟩⟩:=row
  ·rw [hx.1] at hg;cases hg
  ·injection hg with hg
   subst hg
   subst e
   rw [tb] at hgg
   injection hgg with e
   injection e with _ e2 _
   exact absurd e2 (by decide)
 have hblk:∀k,k<wr.heap.size→lv.ownBlock≠some k→w6.heap[k]?=wr.heap[k]?:=fun k hk hn'=>(hgr.block k (Nat.lt_of_lt_of_le hk hb.size) (fun e=>hn' e.symm)).trans (hb.block k hk)
 have hL6:w6.heap[L]?=wr.heap[L]?:=hblk L (by omega) (fun e=>by have:=(hne L e).2;omega)
 have hT6:w6.heap[Tb]?=wr.heap[Tb]?:=hblk Tb hTlt (fun e=>(hne Tb e).1 rfl)
 have hr6:w6.heap[rb]?=wr.heap[rb]?:=hblk rb (by omega) (fun e=>by have:=(hne rb e).2;omega)
 have hm6:Mid rb L W w6:=⟨(hgr.os.trans hb.os).trans mid.os,(hgr.tape.trans hb.tape).trans mid.tape,(hgr.output.trans hb.output).trans mid.output,Nat.le_trans (Nat.le_trans hz hb.size) hgr.size,fun k hk h1 h2=>(hblk k (by omega) (fun e=>by have:=(hne k e).2;omega)).trans (mid.block k hk h1 h2)⟩
 refine ⟨g,cap,w6,hr,hL6.trans nb,hr6,Nat.le_trans hb.size hgr.size,hm6.but ((But.refl L w6).set 5 _), ?_,⟨k0,a0,z0,S0,n0, ?_⟩,tp, ?_⟩
 ·rw [qv2 (hL6.trans nb),hcs]
 ·rw [Below.heap_setCell _ ⟨L,5,none⟩ _ Tb (by show Tb≠L;omega)];exact hT6.trans tb
 ·rw [List.length_append,x9,List.map_append]
  exact ownsRow_setCell_below ho' (by show L<_;omega) _
end
end
end Go.Proofs.YtfkcaldjphakpaaGreatDoor
