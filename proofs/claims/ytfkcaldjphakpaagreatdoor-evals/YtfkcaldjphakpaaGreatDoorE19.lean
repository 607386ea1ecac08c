/- The document's answer: NOT, and what stands in brackets. The document's answer: is the first operand of a test a plain name? -/
import Derived.Test.YtfkcaldjphakpaaGreatDoorWRq28
import Derived.Test.YtfkcaldjphakpaaGreatDoorE06
set_option maxHeartbeats 4000000
set_option maxRecDepth 100000
namespace Go.Proofs.YtfkcaldjphakpaaGreatDoor
open Go.RowKit
section
theorem jf9 (rb:Nat) (s:ByteArray) (hs:s.size≤200) (op m:Nat) (hm:200≤m) (hop:op≤12) (fE:St→Res) (hE:op<12→DReads 173 rb s (op+1) m fE) (eE:qm1 173 rb s) (w:World) (st:St) (ns:List RN) (j:Nat) (h:RT w rb s ns j st) (ho:st.op=op) (hk:st.tk.kind=26) :
  Calls Tryz.prog 351 #[.pointer (some ⟨rb,0,none⟩)] w (REnds rb s w op (m+1) ns j st.place (qd2 s fE st)):=by
 obtain ⟨c2,c3,c4,c5,c6⟩:=h.ct
 have c8:=h.c8
 have hlt:=h.lt
 have n0:¬w.heap.size=rb:=by omega
 have n1:¬rb=w.heap.size:=by omega
 rw [show rK st.tk.kind=5 by rw [hk];rfl] at c2
 rw [show tkZ st=(st.after:Int) by unfold tkZ;rw [if_neg (by omega)]] at c4
 rw [show BS (tkS st)=⟨#[40]⟩ by unfold tkS rS;rw [if_neg (by omega),if_neg (by omega),hk];rfl] at c5
 rw [show tkN st=st.tk.num by unfold tkN;rw [if_neg (by omega)]] at c6
 have hfr:=h.fresh (.cells #[.int .i64 5,.int .i64 st.place,.int .i64 st.after,.string ⟨#[40]⟩,.int .i64 st.tk.num] 235)
 have h':=h.alloc (.cells #[.int .i64 5,.int .i64 st.place,.int .i64 st.after,.string ⟨#[40]⟩,.int .i64 st.tk.num] 235)
 have hpl:=h.fine.step_place (by omega)
 have FR:=v7 hfr
 have H':=v7 h'
 have HE:=v7 hE
 have EE:=v7 eE
 clear h hfr h' hE eE
 by_cases h12:st.op=12
 ·rw [vh2 h12]
  go_enter Tryz.func351,Tryz.ntmps351
  go_wp2_with (first|(go_at_call 295;refine (qw6 (q9 H') hs (by omega)).mono ?_;rintro e w1 ⟨rfl,hk1,hr1⟩;obtain ⟨hc,hf,_,hno,hL⟩:=hk1.mine (by simp) (q9 FR);have p3:w1.cell? ⟨w.heap.size,3,none⟩=some (.string ⟨#[40]⟩):=(hc 3).trans (by simp);have HK1:=v7 (qf0 hlt hk1);have HR1:=v7 hr1;clear hk1 hr1 hc hf hno)|(go_at_call 173;refine (q9 EE _ _ _ _ _ (q9 HR1)).mono ?_;rintro e w2 ⟨i,rfl,hk2,hr2⟩;have HK2:=v7 hk2;have HR2:=v7 hr2;clear hk2 hr2)|(go_at_call 343;refine (vj2 (q9 HR2) (by decide)).mono ?_;rintro e w3 ⟨rfl,hk3,hr3⟩;have hlt3:=hr3.lt;obtain ⟨d7,dz⟩:=hr3.c7;have HK3:=v7 hk3;have HR3:=v7 hr3;clear hk3 hr3))
  go_ret
  refine ⟨(((q9 HK1).trans (q9 HK2)).trans (q9 HK3)).trans ((q9 HR3).setOp 12 12 rfl).2,i,rfl, ?_⟩
  rw [←ho,h12]
  exact ((q9 HR3).setOp 12 12 rfl).1.more (by omega)
 have hlt12:st.op<12:=by omega
 cases hf:fE (qj8 s st) with
 | ok x st'=>
  have HF:=v7 hf
  by_cases hk7:st'.tk.kind=27
  ·rw [vv3 hlt12 hf hk7]
   clear hf
   go_enter Tryz.func351,Tryz.ntmps351
   go_wp2_with (first|(go_at_call 295;refine (qk0 (q9 H') hs (by omega) (by omega) (by omega)).mono ?_;rintro e w1 ⟨rfl,hk1,hr1⟩;obtain ⟨hc,hf,_,hno,hL⟩:=hk1.mine (by simp) (q9 FR);have p3:w1.cell? ⟨w.heap.size,3,none⟩=some (.string ⟨#[40]⟩):=(hc 3).trans (by simp);have HK1:=v7 (qf0 hlt hk1);have HR1:=v7 hr1;clear hk1 hr1 hc hf hno)|(go_at_call 173;refine (q9 HE (by omega) _ (qj8 s st) ns (j+1) (q9 HR1) (by show st.op+1=op+1;omega)).mono ?_;rintro e w2 ⟨hk2,h2⟩;rw [q9 HF] at h2;obtain ⟨new,rfl,hr2,ho2,hp2,hfl⟩:=h2;have hq2:=hr2.fine.step_place (by omega);have HK2:=v7 hk2;have HR2:=v7 hr2;have HFL:=v7 hfl;clear hk2 hr2 hfl)|(go_at_call 343;refine (qw7 (q9 HR2) hs 27 rfl (by decide) (by decide) rfl hk7).mono ?_;rintro e w3 ⟨rfl,hk3,hr3⟩;have hlt3:=hr3.lt;obtain ⟨d7,dz⟩:=hr3.c7;have HK3:=v7 hk3;have HR3:=v7 hr3;clear hk3 hr3;rw [show (v6 s st').op=op+1 from ho2] at d7))
   go_ret
   refine ⟨(((q9 HK1).trans (q9 HK2)).trans (q9 HK3)).trans ((q9 HR3).setOp op _ (by omega)).2,new,rfl, ?_,ho, ?_,q9 HFL⟩
   ·rw [ho]
    exact ((q9 HR3).setOp op _ (by omega)).1.less (by omega)
   ·have:(qj8 s st).place≤st'.place:=hp2
    have e:(qj8 s st).place=(v6 s st).place:=rfl
    show st.place≤(v6 s st').place
    omega
  ·rw [vv2 hlt12 hf hk7]
   clear hf
   go_enter Tryz.func351,Tryz.ntmps351
   go_wp2_with (first|(go_at_call 295;refine (qk0 (q9 H') hs (by omega) (by omega) (by omega)).mono ?_;rintro e w1 ⟨rfl,hk1,hr1⟩;obtain ⟨hc,hf,_,hno,hL⟩:=hk1.mine (by simp) (q9 FR);have p3:w1.cell? ⟨w.heap.size,3,none⟩=some (.string ⟨#[40]⟩):=(hc 3).trans (by simp);have HK1:=v7 (qf0 hlt hk1);have HR1:=v7 hr1;clear hk1 hr1 hc hf hno)|(go_at_call 173;refine (q9 HE (by omega) _ (qj8 s st) ns (j+1) (q9 HR1) (by show st.op+1=op+1;omega)).mono ?_;rintro e w2 ⟨hk2,h2⟩;rw [q9 HF] at h2;obtain ⟨new,rfl,hr2,ho2,hp2,hfl⟩:=h2;have HK2:=v7 hk2;have HR2:=v7 hr2;clear hk2 hr2 hfl)|(go_at_call 343;refine (qs1 (q9 HR2) hs 27 rfl (by decide) (by decide) rfl hk7).mono ?_;rintro e w3 ⟨rfl,hk3,hr3⟩;have hlt3:=hr3.lt;obtain ⟨d7,dz⟩:=hr3.c7;have HK3:=v7 hk3;have HR3:=v7 hr3;clear hk3 hr3;rw [ho2] at d7))
   go_ret
   exact ⟨(((q9 HK1).trans (q9 HK2)).trans (q9 HK3)).trans ((q9 HR3).setOp op _ (by omega)).2,_,rfl,((q9 HR3).setOp op _ (by omega)).1.more (by omega)⟩
 | err en pl=>
  rw [vp0 hlt12 hf]
  have HF:=v7 hf
  clear hf
  go_enter Tryz.func351,Tryz.ntmps351
  go_wp2_with (first|(go_at_call 295;refine (qk0 (q9 H') hs (by omega) (by omega) (by omega)).mono ?_;rintro e w1 ⟨rfl,hk1,hr1⟩;obtain ⟨hc,hf,_,hno,hL⟩:=hk1.mine (by simp) (q9 FR);have p3:w1.cell? ⟨w.heap.size,3,none⟩=some (.string ⟨#[40]⟩):=(hc 3).trans (by simp);have HK1:=v7 (qf0 hlt hk1);have HR1:=v7 hr1;clear hk1 hr1 hc hf hno)|(go_at_call 173;refine (q9 HE (by omega) _ (qj8 s st) ns (j+1) (q9 HR1) (by show st.op+1=op+1;omega)).mono ?_;rintro e w2 ⟨hk2,h2⟩;rw [q9 HF] at h2;obtain ⟨i,rfl,hr2⟩:=h2;have HK2:=v7 hk2;have HR2:=v7 hr2;clear hk2 hr2)|(go_at_call 343;refine (rmust_rx (q9 HR2) 27 rfl (by decide) (by decide) rfl (by decide) (by decide)).mono ?_;rintro e w3 ⟨rfl,hk3,hr3⟩;have hlt3:=hr3.lt;obtain ⟨d7,dz⟩:=hr3.c7;have HK3:=v7 hk3;have HR3:=v7 hr3;clear hk3 hr3))
  go_ret
  exact ⟨(((q9 HK1).trans (q9 HK2)).trans (q9 HK3)).trans ((q9 HR3).setOp op _ (by omega)).2,_,rfl,((q9 HR3).setOp op _ (by omega)).1.more (by omega)⟩
theorem vj5 (rb:Nat) (s:ByteArray) (hs:s.size≤200) (op m:Nat) (hm:200≤m) (hm':m≤900) (hop:op≤12) (fS fE:St→Res) (hS:op<12→RReads 351 rb s (op+1) m fS) (hE:op<12→DReads 173 rb s (op+1) m fE) (eS:qm1 351 rb s) (eE:qm1 173 rb s) :
  RReads 351 rb s op (m+1) (qb7 s fS fE):=by
 intro w st ns j h ho
 unfold qb7
 split
 ·rename_i hk;exact jf7 rb s hs op m hm hm' hop fS hS eS w st ns j h ho hk
 split
 ·rename_i hk;exact jf8 rb s hs op m hm hm' hop fS hS eS w st ns j h ho hk
 split
 ·rename_i hk;exact jf9 rb s hs op m hm hop fE hE eE w st ns j h ho hk
 split
 ·rename_i hk;exact rsigned_2 rb s hs op (m+1) w st ns j h ho hk
 split
 ·rename_i hk;exact rsigned_3 rb s hs op (m+1) w st ns j h ho hk
 split
 ·rename_i hk;exact rsigned_4 rb s hs op (m+1) w st ns j h ho hk
 split
 ·rename_i hk;exact rsigned_8 rb s hs op (m+1) w st ns j h ho hk
 split
 ·rename_i hk;exact rsigned_9 rb s hs op (m+1) w st ns j h ho hk
 ·exact jg0 rb s hs op (m+1) (by omega) w st ns j h ho ⟨by assumption,by assumption,by assumption,by assumption,by assumption,by assumption,by assumption,by assumption⟩
theorem rdenied_7 (rb:Nat) (s:ByteArray) (hs:s.size≤200) (op m:Nat) (hm:200≤m) (hm':m≤900) (hop:op≤12) (fS:St→Res) (hS:op<12→DReads 259 rb s (op+1) m fS) (eS:qm1 259 rb s) (w:World) (st:St) (ns:List RN) (j:Nat) (h:RT w rb s ns j st) (ho:st.op=op) (hk:st.tk.kind=7) :
  Calls Tryz.prog 259 #[.pointer (some ⟨rb,0,none⟩)] w (DEnds rb s w op (m+1) ns j st.place (qd4 s fS 5 st)):=by
 obtain ⟨_,c3,_⟩:=h.ct
 have c8:=h.c8
 have hlt:=h.lt
 have hq7:(st.tk.kind==7)=true:=by rw [hk];rfl
 have hpl:=h.fine.step_place (by omega)
 have H:=v7 h
 have HS:=v7 hS
 have ES:=v7 eS
 clear h hS eS
 by_cases h12:st.op=12
 ·rw [qt5 h12]
  go_enter Tryz.func259,Tryz.ntmps259
  go_wp2_with (first|(go_at_call 215;refine (qk1 (q9 H) 7 (X:=⟨#[78,79,84]⟩) rfl (by decide) (by decide) rfl).mono ?_;rintro e w' ⟨rfl,hw'⟩;subst w';rw [hq7])|(go_at_call 295;refine (qw6 (q9 H) hs (by omega)).mono ?_;rintro e w1 ⟨rfl,hk1,hr1⟩;have HK1:=v7 hk1;have HR1:=v7 hr1;clear hk1 hr1)|(go_at_call 259;refine (q9 ES _ _ _ _ _ (q9 HR1)).mono ?_;rintro e w2 ⟨i,rfl,hk2,hr2⟩;have hlt2:=hr2.lt;obtain ⟨d7,dz⟩:=hr2.c7;have HK2:=v7 hk2;have HR2:=v7 hr2;clear hk2 hr2)|(go_at_call 216;refine (qq7 (((q9 HR2).setOp 12 12 rfl).1) (by omega) [78,79,84] st.place i rfl (by simp)).mono ?_;rintro e w3 ⟨i3,rfl,hk3,hr3⟩;have HK3:=v7 hk3;have HR3:=v7 hr3;clear hk3 hr3))
  go_ret
  refine ⟨((q9 HK1).trans (q9 HK2)).trans (((q9 HR2).setOp 12 12 rfl).2.trans (q9 HK3)),_,rfl, ?_⟩
  rw [←ho,h12]
  exact .inl ((q9 HR3).more (by omega))
 have hlt12:st.op<12:=by omega
 cases hf:fS (qj8 s st) with
 | ok x st'=>
  rw [qz1 hlt12 hf]
  have HF:=v7 hf
  clear hf
  go_enter Tryz.func259,Tryz.ntmps259
  go_wp2_with (first|(go_at_call 215;refine (qk1 (q9 H) 7 (X:=⟨#[78,79,84]⟩) rfl (by decide) (by decide) rfl).mono ?_;rintro e w' ⟨rfl,hw'⟩;subst w';rw [hq7])|(go_at_call 295;refine (qk0 (q9 H) hs (by omega) (by omega) (by omega)).mono ?_;rintro e w1 ⟨rfl,hk1,hr1⟩;have HK1:=v7 hk1;have HR1:=v7 hr1;clear hk1 hr1)|(go_at_call 259;refine (q9 HS (by omega) _ (qj8 s st) ns (j+1) (q9 HR1) (by show st.op+1=op+1;omega)).mono ?_;rintro e w2 ⟨hk2,h2⟩;rw [q9 HF] at h2;obtain ⟨new,rfl,hr2,ho2,hp2,hfl⟩:=h2;have hlt2:=hr2.lt;obtain ⟨d7,dz⟩:=hr2.c7;have HK2:=v7 hk2;have HR2:=v7 hr2;clear hk2 hr2;rw [ho2] at d7;have HFL:=v7 hfl;clear hfl)|(go_at_call 216;refine (vw6 (((q9 HR2).setOp op _ (by omega)).1) hs ⟨5,st.place,0,[],[],[]⟩ (ns.length+new.length - 1) rfl rfl rfl rfl (by simp)).mono ?_;rintro e w3 ⟨rfl,hk3,hr3⟩;have HK3:=v7 hk3;have HR3:=v7 hr3;clear hk3 hr3))
  go_ret
  refine ⟨((q9 HK1).trans (q9 HK2)).trans (((q9 HR2).setOp op _ (by omega)).2.trans (q9 HK3)),_,qf7 (by simp), ?_,ho, ?_,Flat.un _ (q9 HFL)⟩
  ·have:=q9 HR3
   rw [List.append_assoc] at this
   rw [ho]
   exact this
  ·have:(qj8 s st).place≤st'.place:=hp2
   have e:(qj8 s st).place=(v6 s st).place:=rfl
   show st.place≤st'.place
   omega
 | err en pl=>
  rw [qv3 hlt12 hf]
  have HF:=v7 hf
  clear hf
  go_enter Tryz.func259,Tryz.ntmps259
  go_wp2_with (first|(go_at_call 215;refine (qk1 (q9 H) 7 (X:=⟨#[78,79,84]⟩) rfl (by decide) (by decide) rfl).mono ?_;rintro e w' ⟨rfl,hw'⟩;subst w';rw [hq7])|(go_at_call 295;refine (qk0 (q9 H) hs (by omega) (by omega) (by omega)).mono ?_;rintro e w1 ⟨rfl,hk1,hr1⟩;have HK1:=v7 hk1;have HR1:=v7 hr1;clear hk1 hr1)|(go_at_call 259;refine (q9 HS (by omega) _ (qj8 s st) ns (j+1) (q9 HR1) (by show st.op+1=op+1;omega)).mono ?_;rintro e w2 ⟨hk2,h2⟩;rw [q9 HF] at h2;obtain ⟨i,rfl,hr2⟩:=h2;have hlt2:=hr2.lt;obtain ⟨d7,dz⟩:=hr2.c7;have HK2:=v7 hk2;have HR2:=v7 hr2;clear hk2 hr2)|(go_at_call 216;refine (jf0 (((q9 HR2).setOp op _ (by omega)).1) (by omega) [78,79,84] st.place i rfl (by simp)).mono ?_;rintro e w3 ⟨i3,rfl,hk3,hr3⟩;have HK3:=v7 hk3;have HR3:=v7 hr3;clear hk3 hr3))
  go_ret
  exact ⟨((q9 HK1).trans (q9 HK2)).trans (((q9 HR2).setOp op _ (by omega)).2.trans (q9 HK3)),_,rfl,(q9 HR3).more (Nat.le_refl _) (by have e:(qj8 s st).place=(v6 s st).place:=rfl;omega)⟩
theorem vi8 (rb:Nat) (s:ByteArray) (hs:s.size≤200) (op m:Nat) (hm:200≤m) (hm':m≤900) (hop:op≤12) (fD fT:St→Res) (hD:op<12→DReads 259 rb s (op+1) m fD) (eD:qm1 259 rb s) (hT:DReads 294 rb s op (m+1) fT) :
  DReads 259 rb s op (m+1) (qd6 s fD fT):=by
 intro w st ns j h ho
 unfold qd6
 split
 ·rename_i hk;exact rdenied_7 rb s hs op m hm hm' hop fD hD eD w st ns j h ho hk
 ·rename_i hk
  have hq7:(st.tk.kind==7)=false:=beq_eq_false_iff_ne.2 hk
  have HT:=v7 (hT w st ns j h ho)
  have H:=v7 h
  clear h hT hD eD
  go_enter Tryz.func259,Tryz.ntmps259
  go_wp2_with (first|(go_at_call 215;refine (qk1 (q9 H) 7 (X:=⟨#[78,79,84]⟩) rfl (by decide) (by decide) rfl).mono ?_;rintro e w' ⟨rfl,hw'⟩;subst w';rw [hq7])|(go_at_call 294;refine (q9 HT).mono ?_;rintro e w2 h2;have HX:Hid (∃v,e=.returned v):=v7 (by cases hf:fT st with|ok t st'=>rw [hf] at h2;obtain ⟨_,_,rfl,_⟩:=h2;exact ⟨_,rfl⟩|err en pl=>rw [hf] at h2;obtain ⟨_,_,rfl,_⟩:=h2;exact ⟨_,rfl⟩);have H2:=v7 h2;clear h2;obtain ⟨v,rfl⟩:=q9 HX;clear HX))
  go_ret
  exact q9 H2
end
section
theorem flat9 {α:Type} (f:α→List Value) (hf:∀a,(f a).length=9):∀(l:List α) (i:Nat) (a:α),l[i]?=some a→∀k,k<9→(l.flatMap f)[i * 9+k]?=(f a)[k]?:=by
 intro l
 induction l with
 | nil=>intro i a h;simp at h
 | cons b l ih=>
  intro i a h k hk
  rw [List.flatMap_cons]
  cases i with
  | zero=>
   simp at h;subst h
   rw [List.getElem?_append_left (by rw [hf];omega)]
   simp
  | succ i=>
   rw [List.getElem?_append_right (by rw [hf];omega),hf,show (i+1) * 9+k - 9=i * 9+k by omega]
   exact ih i a (by simpa using h) k hk
theorem NodesAt.opAt {w:World} {rb:Nat} {nv:Value} {ns:List RN} (h:NodesAt w rb nv ns) {i:Nat} {n:RN} (hi:ns[i]?=some n):∃g cap,nv=.slice (some ⟨g,0,none⟩) ns.length cap∧w.cell? ⟨g,i * 9,none⟩=some (.string (BS n.op)):=by
 obtain ⟨rs,hl,ho,hn⟩:=h
 have hlt:=(List.getElem?_eq_some_iff.1 hi).1
 have ho':=ho
 obtain ⟨hll,hx|⟨g,cap,cur,rfl,_⟩⟩:=ho
 ·omega
 ·refine ⟨g,cap,rfl, ?_⟩
  rw [ho'.cellAt (i * 9) (by omega)]
  obtain ⟨r,hr⟩:∃r,rs[i]?=some r:=⟨rs[i],List.getElem?_eq_getElem (by omega)⟩
  have hz:(ns.zip rs)[i]?=some (n,r):=by rw [List.getElem?_zip_eq_some];exact ⟨hi,hr⟩
  have:=flat9 (fun x:RN×(Value×Value)=>qt4 x.1 x.2.1 x.2.2) (fun a=>rfl) (ns.zip rs) i (n,r) hz 0 (by omega)
  rw [Nat.add_zero] at this
  rw [this]
  rfl
theorem qk4 (o:Int):(qc6 o==[110,97,109,101])=(o==0):=by
 by_cases h:o=0
 ·subst h;rfl
 ·rw [show (o==0)=false from beq_eq_false_iff_ne.2 h,beq_eq_false_iff_ne]
  by_cases hr:1≤o∧o≤22
  ·have hd:∀i:Fin 22,qc6 (1+(i.val:Int))≠[110,97,109,101]:=by decide +kernel
   have:=hd ⟨(o - 1).toNat,by omega⟩
   rwa [show (1:Int)+(((o - 1).toNat:Nat):Int)=o by omega] at this
  ·unfold qc6
   rw [if_neg h]
   iterate 22 rw [if_neg (by omega)]
   decide
theorem vp2 (l:List RN) (n:RN):(l++[n])[(l++[n]).length - 1]?=some n:=by simp
theorem Flat.last {t:Ast} {off:Nat} {l:List RN} (h:Flat t off l):∃n,l[l.length - 1]?=some n∧(n.op==[110,97,109,101])=(opA t==0):=by
 cases h with
 | leaf p=>exact ⟨_,rfl,qk4 _⟩
 | un p h=>exact ⟨_,vp2 _ _,qk4 _⟩
 | bin p h1 h2=>exact ⟨_,vp2 _ _,qk4 _⟩
 | tri p h1 h2 h3=>exact ⟨_,vp2 _ _,qk4 _⟩
 | neg1 pl q hq h=>exact ⟨_,vp2 _ _,(qk4 _).trans (by rcases hq with e|e|e<;>rw [e]<;>rfl)⟩
 | neg3 pl q hq h1 h2 h3=>exact ⟨_,vp2 _ _,(qk4 _).trans (by rw [hq];rfl)⟩
theorem RT.opAt {w:World} {rb:Nat} {s:ByteArray} {ns new:List RN} {j:Nat} {st:St} (h:RT w rb s (ns++new) j st) {l:Ast} (hfl:Flat l ns.length new) {i0:Nat} (hi0:ns.length+new.length - 1=i0) :
  ∃g cap LN N,w.cell? ⟨rb,0,none⟩=some (.slice (some ⟨g,0,none⟩) LN cap)∧i0<LN∧w.cell? ⟨g,i0 * 9,none⟩=some (.string N)∧(N.toList==[110,97,109,101])=(opA l==0):=by
 obtain ⟨nv,hT,hN,_⟩:=h
 obtain ⟨n,hn,hop⟩:=hfl.last
 have hp:=hfl.pos
 have hi:(ns++new)[i0]?=some n:=by
  rw [List.getElem?_append_right (by omega),show i0 - ns.length=new.length - 1 by omega];exact hn
 obtain ⟨g,cap,rfl,hc⟩:=hN.opAt hi
 exact ⟨g,cap,_,_,hT.c0,by simp;omega,hc,by rw [qi0];exact hop⟩
theorem rK_2 (k:Int):(rK k==2)=(k==2):=by
 rw [Bool.eq_iff_iff,beq_iff_eq,beq_iff_eq]
 unfold rK
 split
 ·rfl
 ·split<;>omega
end
end Go.Proofs.YtfkcaldjphakpaaGreatDoor
