/- row: operands with operators of one rank between them, whatever reads an operand. either, both, sum, product: rows of operators, each over what reads its operand. group and denial. sign, signed, denied. -/
import Derived.Test.YtfkcaldjphakpabGreatDoorWRd5
set_option maxHeartbeats 1000000
set_option maxRecDepth 100000
namespace Go.Proofs.YtfkcaldjphakpabGreatDoor
open Go.RowKit
section
def qa5 (s:ByteArray) (f:St→Res) (ks:List Int):Nat→Ast→St→Res
 | 0,l,st=>.ok l st
 | n+1,l,st=>if ks.contains st.tk.kind then (match qb4 s f st l with
   | .ok l' st'=>qa5 s f ks n l' st'
   | .err en pl=>.err en pl) else .ok l st
def qg3 (s:ByteArray) (f:St→Res) (ks:List Int) (st:St):Res:=match f st with
 | .ok l st'=>qa5 s f ks (s.size+1) l st'
 | .err en pl=>.err en pl
theorem qt0 {s:ByteArray} {f:St→Res} {ks:List Int} {n:Nat} {l:Ast} {st:St} (h:ks.contains st.tk.kind=false):qa5 s f ks (n+1) l st=.ok l st:=by
 rw [qa5,if_neg (by rw [h];simp)]
theorem qs9 {s:ByteArray} {f:St→Res} {ks:List Int} {n:Nat} {l l':Ast} {st st':St} (h:ks.contains st.tk.kind=true) (hj:qb4 s f st l=.ok l' st'):qa5 s f ks (n+1) l st=qa5 s f ks n l' st':=by
 rw [qa5,if_pos h,hj]
theorem qw0 {s:ByteArray} {f:St→Res} {ks:List Int} {n:Nat} {l:Ast} {st:St} {en pl:Int} (h:ks.contains st.tk.kind=true) (hj:qb4 s f st l=.err en pl):qa5 s f ks (n+1) l st=.err en pl:=by
 rw [qa5,if_pos h,hj]
theorem vc9 {s:ByteArray} {f:St→Res} {ks:List Int} {st st':St} {l:Ast} (h:f st=.ok l st'):qg3 s f ks st=qa5 s f ks (s.size+1) l st':=by unfold qg3;rw [h]
theorem qz2 {s:ByteArray} {f:St→Res} {ks:List Int} {st:St} {en pl:Int} (h:f st=.err en pl):qg3 s f ks st=.err en pl:=by unfold qg3;rw [h]
def plOf (w:World) (rb:Nat):Nat:=match w.cell? ⟨rb,2,none⟩ with
 | some (.int _ n)=>n.toNat
 | _=>0
theorem qt5 {w:World} {rb:Nat} {s:ByteArray} {st:St} (h:RdAt w rb s st):plOf w rb=st.place:=by
 unfold plOf;rw [h.c2];simp
theorem KsAt.kept {rb b:Nat} {w w':World} {ks:List Int} (h:KsAt w b ks) (hk:Kept rb w w') (hb:b<w.heap.size) (hn:¬b=rb):KsAt w' b ks:=
 fun j k hj=>((x5 hk).1 b j hb hn).trans (h j k hj)
theorem row_both (rb ob cap:Nat) (s:ByteArray) (op:Nat) (f:St→Res) (hf:qe8 86 rb s op f) (ks:List Int) (hks:ks.length≤8) (h0:ks.contains 0=false) (st:St) (w:World) (h:Ready rb s w st) (hop:st.op=op) (ho:KsAt w ob ks) (hob:ob<w.heap.size) (hne:¬ob=rb) :
  Calls Tryz.prog 85 #[.pointer (some ⟨rb,0,none⟩),.func (.func 86) #[.pointer (some ⟨rb,0,none⟩)] #[],.slice (some ⟨ob,0,none⟩) ks.length cap] w (Gives rb s w op st.place (qg3 s f ks st)):=by
 have H:=v7 h
 have HF:=v7 hf
 have HO:=v7 ho
 have hlt:=h.lt
 clear h hf ho
 cases hres:f st with
 | err en pl=>
  rw [qz2 hres]
  have HRES:=v7 hres
  clear hres
  go_enter Tryz.func85,Tryz.ntmps85
  go_wp2_with (go_at_call 86;refine (q9 HF _ st (q9 H) hop).mono ?_;rintro e w1 ⟨hk1,h1⟩;rw [q9 HRES] at h1;subst h1;simp only [x4])
  exact ⟨rfl,hk1,rfl⟩
 | ok l0 st0=>
  rw [vc9 hres]
  have HRES:=v7 hres
  clear hres
  obtain ⟨R,hR⟩:∃r,qa5 s f ks (s.size+1) l0 st0=r:=⟨_,rfl⟩
  rw [hR]
  have HR:=v7 hR
  clear hR
  go_enter Tryz.func85,Tryz.ntmps85
  go_wp2_with (go_at_call 86;refine (q9 HF _ st (q9 H) hop).mono ?_;rintro e w1 ⟨hk1,h1⟩;rw [q9 HRES] at h1;obtain ⟨v1,rfl,hn1,hr1,hf1,ho1,hp1⟩:=h1;have hn1:=v7 hn1;have hr1:=v7 hr1;have hk1:=v7 hk1;have hf1:=v7 hf1)
  go_loopw [7] (fun v wr=>∃(n:Nat) (l:Ast) (sl:St),Hid (R=qa5 s f ks n l sl)∧s.size<n+sl.place∧IsNode rb wr v l∧Hid (Ready rb s wr sl)∧sl.op=op∧st.place≤sl.place∧Kept rb w wr) (fun v wr=>s.size+1 - plOf wr rb)
  case atStart=>exact ⟨s.size+1,l0,st0,v7 (q9 HR).symm,by omega,q9 hn1,v7 ((q9 H).kept (q9 hk1) (q9 hr1) (q9 hf1)),ho1,hp1,q9 hk1⟩
  case round=>
   obtain ⟨n,l,sl,hR,hn,hnode,hready,hopl,hpl,hk⟩:=hrel
   have hfine:=(q9 hready).fine
   have hf1':=hfine.place
   obtain ⟨lb,rfl⟩:=hnode.ptr
   obtain ⟨m,rfl⟩:∃m,n=m+1:=⟨n - 1,by omega⟩
   have HKS:=v7 ((q9 HO).kept hk hob hne)
   have HND:=v7 hnode
   have HK:=v7 hk
   have hltr:=(q9 hready).lt
   have HPL:=v7 (qt5 (q9 hready).at')
   obtain ⟨c0,c1,c2,c3,c4,c5,c6,fz⟩:=(q9 hready).at'
   clear hnode hk
   have CON:=fun w=>qq2 ob cap ks sl.tk.kind w hks
   cases hc:ks.contains sl.tk.kind with
   | false=>
    have HRR:Hid (R=.ok l sl):=v7 (by rw [q9 hR,qt0 hc])
    rw [hc] at CON
    have HCON:=v7 CON
    clear hc CON hR c0 c2 c3 c4 c5 c6 fz
    go_wp2_with (go_at_call 132;refine (q9 HCON _ (q9 HKS)).mono ?_;rintro e w' ⟨rfl,rfl⟩)
    go_ret
    rw [q9 HRR]
    exact ⟨q9 HK,_,rfl,q9 HND,(q9 hready).at',hfine,hopl,hpl⟩
   | true=>
    rw [hc] at CON
    have HCON:=v7 CON
    have hk0:sl.tk.kind≠0:=fun h=>by rw [h,h0] at hc;cases hc
    have hlong:=hfine.long hk0
    cases hj:qb4 s f sl l with
    | err en pl=>
     have HRR:Hid (R=.err en pl):=v7 (by rw [q9 hR,qw0 hc hj])
     have HJ:=v7 hj
     clear hc CON hR hj c0 c2 c3 c4 c5 c6 fz hk0
     go_wp2_with (first|(go_at_call 132;refine (q9 HCON _ (q9 HKS)).mono ?_;rintro e w' ⟨rfl,rfl⟩)|(go_at_call 133;refine (vk1 rb s op f (q9 HF) sl l _ _ (q9 hready) hopl (q9 HND)).mono ?_;rintro e w2 ⟨hk2,h2⟩;rw [q9 HJ] at h2;subst h2;simp only [x4]))
     rw [q9 HRR]
     exact ⟨rfl,(q9 HK).trans hk2,rfl⟩
    | ok l2 st2=>
     have HRR:Hid (R=qa5 s f ks m l2 st2):=v7 (by rw [q9 hR,qs9 hc hj])
     have HJ:=v7 hj
     clear hc CON hR hj c0 c2 c3 c4 c5 c6 fz hk0
     go_wp2_with (first|(go_at_call 132;refine (q9 HCON _ (q9 HKS)).mono ?_;rintro e w' ⟨rfl,rfl⟩)|(go_at_call 133;refine (vk1 rb s op f (q9 HF) sl l _ _ (q9 hready) hopl (q9 HND)).mono ?_;rintro e w2 ⟨hk2,h2⟩;rw [q9 HJ] at h2;obtain ⟨v2,rfl,hn2,hr2,hf2,ho2,hp2⟩:=h2;have HPL2:=v7 (qt5 hr2);have hr2:=v7 hr2;have hn2:=v7 hn2;have hk2:=v7 hk2;have hf2:=v7 hf2))
     have hb2:=(q9 hf2).place
     go_roundw
     case rel=>exact ⟨m,l2,st2,HRR,by omega,q9 hn2,v7 ((q9 hready).kept (q9 hk2) (q9 hr2) (q9 hf2)),ho2,by omega,(q9 HK).trans (q9 hk2)⟩
     case measure=>rw [q9 HPL,q9 HPL2];omega
theorem za4 (rb ob cap:Nat) (s:ByteArray) (op:Nat) (f:St→Res) (hf:qe8 134 rb s op f) (ks:List Int) (hks:ks.length≤8) (h0:ks.contains 0=false) (st:St) (w:World) (h:Ready rb s w st) (hop:st.op=op) (ho:KsAt w ob ks) (hob:ob<w.heap.size) (hne:¬ob=rb) :
  Calls Tryz.prog 85 #[.pointer (some ⟨rb,0,none⟩),.func (.func 134) #[.pointer (some ⟨rb,0,none⟩)] #[],.slice (some ⟨ob,0,none⟩) ks.length cap] w (Gives rb s w op st.place (qg3 s f ks st)):=by
 have H:=v7 h
 have HF:=v7 hf
 have HO:=v7 ho
 have hlt:=h.lt
 clear h hf ho
 cases hres:f st with
 | err en pl=>
  rw [qz2 hres]
  have HRES:=v7 hres
  clear hres
  go_enter Tryz.func85,Tryz.ntmps85
  go_wp2_with (go_at_call 134;refine (q9 HF _ st (q9 H) hop).mono ?_;rintro e w1 ⟨hk1,h1⟩;rw [q9 HRES] at h1;subst h1;simp only [x4])
  exact ⟨rfl,hk1,rfl⟩
 | ok l0 st0=>
  rw [vc9 hres]
  have HRES:=v7 hres
  clear hres
  obtain ⟨R,hR⟩:∃r,qa5 s f ks (s.size+1) l0 st0=r:=⟨_,rfl⟩
  rw [hR]
  have HR:=v7 hR
  clear hR
  go_enter Tryz.func85,Tryz.ntmps85
  go_wp2_with (go_at_call 134;refine (q9 HF _ st (q9 H) hop).mono ?_;rintro e w1 ⟨hk1,h1⟩;rw [q9 HRES] at h1;obtain ⟨v1,rfl,hn1,hr1,hf1,ho1,hp1⟩:=h1;have hn1:=v7 hn1;have hr1:=v7 hr1;have hk1:=v7 hk1;have hf1:=v7 hf1)
  go_loopw [7] (fun v wr=>∃(n:Nat) (l:Ast) (sl:St),Hid (R=qa5 s f ks n l sl)∧s.size<n+sl.place∧IsNode rb wr v l∧Hid (Ready rb s wr sl)∧sl.op=op∧st.place≤sl.place∧Kept rb w wr) (fun v wr=>s.size+1 - plOf wr rb)
  case atStart=>exact ⟨s.size+1,l0,st0,v7 (q9 HR).symm,by omega,q9 hn1,v7 ((q9 H).kept (q9 hk1) (q9 hr1) (q9 hf1)),ho1,hp1,q9 hk1⟩
  case round=>
   obtain ⟨n,l,sl,hR,hn,hnode,hready,hopl,hpl,hk⟩:=hrel
   have hfine:=(q9 hready).fine
   have hf1':=hfine.place
   obtain ⟨lb,rfl⟩:=hnode.ptr
   obtain ⟨m,rfl⟩:∃m,n=m+1:=⟨n - 1,by omega⟩
   have HKS:=v7 ((q9 HO).kept hk hob hne)
   have HND:=v7 hnode
   have HK:=v7 hk
   have hltr:=(q9 hready).lt
   have HPL:=v7 (qt5 (q9 hready).at')
   obtain ⟨c0,c1,c2,c3,c4,c5,c6,fz⟩:=(q9 hready).at'
   clear hnode hk
   have CON:=fun w=>qq2 ob cap ks sl.tk.kind w hks
   cases hc:ks.contains sl.tk.kind with
   | false=>
    have HRR:Hid (R=.ok l sl):=v7 (by rw [q9 hR,qt0 hc])
    rw [hc] at CON
    have HCON:=v7 CON
    clear hc CON hR c0 c2 c3 c4 c5 c6 fz
    go_wp2_with (go_at_call 132;refine (q9 HCON _ (q9 HKS)).mono ?_;rintro e w' ⟨rfl,rfl⟩)
    go_ret
    rw [q9 HRR]
    exact ⟨q9 HK,_,rfl,q9 HND,(q9 hready).at',hfine,hopl,hpl⟩
   | true=>
    rw [hc] at CON
    have HCON:=v7 CON
    have hk0:sl.tk.kind≠0:=fun h=>by rw [h,h0] at hc;cases hc
    have hlong:=hfine.long hk0
    cases hj:qb4 s f sl l with
    | err en pl=>
     have HRR:Hid (R=.err en pl):=v7 (by rw [q9 hR,qw0 hc hj])
     have HJ:=v7 hj
     clear hc CON hR hj c0 c2 c3 c4 c5 c6 fz hk0
     go_wp2_with (first|(go_at_call 132;refine (q9 HCON _ (q9 HKS)).mono ?_;rintro e w' ⟨rfl,rfl⟩)|(go_at_call 133;refine (vc2 rb s op f (q9 HF) sl l _ _ (q9 hready) hopl (q9 HND)).mono ?_;rintro e w2 ⟨hk2,h2⟩;rw [q9 HJ] at h2;subst h2;simp only [x4]))
     rw [q9 HRR]
     exact ⟨rfl,(q9 HK).trans hk2,rfl⟩
    | ok l2 st2=>
     have HRR:Hid (R=qa5 s f ks m l2 st2):=v7 (by rw [q9 hR,qs9 hc hj])
     have HJ:=v7 hj
     clear hc CON hR hj c0 c2 c3 c4 c5 c6 fz hk0
     go_wp2_with (first|(go_at_call 132;refine (q9 HCON _ (q9 HKS)).mono ?_;rintro e w' ⟨rfl,rfl⟩)|(go_at_call 133;refine (vc2 rb s op f (q9 HF) sl l _ _ (q9 hready) hopl (q9 HND)).mono ?_;rintro e w2 ⟨hk2,h2⟩;rw [q9 HJ] at h2;obtain ⟨v2,rfl,hn2,hr2,hf2,ho2,hp2⟩:=h2;have HPL2:=v7 (qt5 hr2);have hr2:=v7 hr2;have hn2:=v7 hn2;have hk2:=v7 hk2;have hf2:=v7 hf2))
     have hb2:=(q9 hf2).place
     go_roundw
     case rel=>exact ⟨m,l2,st2,HRR,by omega,q9 hn2,v7 ((q9 hready).kept (q9 hk2) (q9 hr2) (q9 hf2)),ho2,by omega,(q9 HK).trans (q9 hk2)⟩
     case measure=>rw [q9 HPL,q9 HPL2];omega
theorem jn0 (rb ob cap:Nat) (s:ByteArray) (op:Nat) (f:St→Res) (hf:qe8 252 rb s op f) (ks:List Int) (hks:ks.length≤8) (h0:ks.contains 0=false) (st:St) (w:World) (h:Ready rb s w st) (hop:st.op=op) (ho:KsAt w ob ks) (hob:ob<w.heap.size) (hne:¬ob=rb) :
  Calls Tryz.prog 85 #[.pointer (some ⟨rb,0,none⟩),.func (.func 252) #[.pointer (some ⟨rb,0,none⟩)] #[],.slice (some ⟨ob,0,none⟩) ks.length cap] w (Gives rb s w op st.place (qg3 s f ks st)):=by
 have H:=v7 h
 have HF:=v7 hf
 have HO:=v7 ho
 have hlt:=h.lt
 clear h hf ho
 cases hres:f st with
 | err en pl=>
  rw [qz2 hres]
  have HRES:=v7 hres
  clear hres
  go_enter Tryz.func85,Tryz.ntmps85
  go_wp2_with (go_at_call 252;refine (q9 HF _ st (q9 H) hop).mono ?_;rintro e w1 ⟨hk1,h1⟩;rw [q9 HRES] at h1;subst h1;simp only [x4])
  exact ⟨rfl,hk1,rfl⟩
 | ok l0 st0=>
  rw [vc9 hres]
  have HRES:=v7 hres
  clear hres
  obtain ⟨R,hR⟩:∃r,qa5 s f ks (s.size+1) l0 st0=r:=⟨_,rfl⟩
  rw [hR]
  have HR:=v7 hR
  clear hR
  go_enter Tryz.func85,Tryz.ntmps85
  go_wp2_with (go_at_call 252;refine (q9 HF _ st (q9 H) hop).mono ?_;rintro e w1 ⟨hk1,h1⟩;rw [q9 HRES] at h1;obtain ⟨v1,rfl,hn1,hr1,hf1,ho1,hp1⟩:=h1;have hn1:=v7 hn1;have hr1:=v7 hr1;have hk1:=v7 hk1;have hf1:=v7 hf1)
  go_loopw [7] (fun v wr=>∃(n:Nat) (l:Ast) (sl:St),Hid (R=qa5 s f ks n l sl)∧s.size<n+sl.place∧IsNode rb wr v l∧Hid (Ready rb s wr sl)∧sl.op=op∧st.place≤sl.place∧Kept rb w wr) (fun v wr=>s.size+1 - plOf wr rb)
  case atStart=>exact ⟨s.size+1,l0,st0,v7 (q9 HR).symm,by omega,q9 hn1,v7 ((q9 H).kept (q9 hk1) (q9 hr1) (q9 hf1)),ho1,hp1,q9 hk1⟩
  case round=>
   obtain ⟨n,l,sl,hR,hn,hnode,hready,hopl,hpl,hk⟩:=hrel
   have hfine:=(q9 hready).fine
   have hf1':=hfine.place
   obtain ⟨lb,rfl⟩:=hnode.ptr
   obtain ⟨m,rfl⟩:∃m,n=m+1:=⟨n - 1,by omega⟩
   have HKS:=v7 ((q9 HO).kept hk hob hne)
   have HND:=v7 hnode
   have HK:=v7 hk
   have hltr:=(q9 hready).lt
   have HPL:=v7 (qt5 (q9 hready).at')
   obtain ⟨c0,c1,c2,c3,c4,c5,c6,fz⟩:=(q9 hready).at'
   clear hnode hk
   have CON:=fun w=>qq2 ob cap ks sl.tk.kind w hks
   cases hc:ks.contains sl.tk.kind with
   | false=>
    have HRR:Hid (R=.ok l sl):=v7 (by rw [q9 hR,qt0 hc])
    rw [hc] at CON
    have HCON:=v7 CON
    clear hc CON hR c0 c2 c3 c4 c5 c6 fz
    go_wp2_with (go_at_call 132;refine (q9 HCON _ (q9 HKS)).mono ?_;rintro e w' ⟨rfl,rfl⟩)
    go_ret
    rw [q9 HRR]
    exact ⟨q9 HK,_,rfl,q9 HND,(q9 hready).at',hfine,hopl,hpl⟩
   | true=>
    rw [hc] at CON
    have HCON:=v7 CON
    have hk0:sl.tk.kind≠0:=fun h=>by rw [h,h0] at hc;cases hc
    have hlong:=hfine.long hk0
    cases hj:qb4 s f sl l with
    | err en pl=>
     have HRR:Hid (R=.err en pl):=v7 (by rw [q9 hR,qw0 hc hj])
     have HJ:=v7 hj
     clear hc CON hR hj c0 c2 c3 c4 c5 c6 fz hk0
     go_wp2_with (first|(go_at_call 132;refine (q9 HCON _ (q9 HKS)).mono ?_;rintro e w' ⟨rfl,rfl⟩)|(go_at_call 133;refine (va4 rb s op f (q9 HF) sl l _ _ (q9 hready) hopl (q9 HND)).mono ?_;rintro e w2 ⟨hk2,h2⟩;rw [q9 HJ] at h2;subst h2;simp only [x4]))
     rw [q9 HRR]
     exact ⟨rfl,(q9 HK).trans hk2,rfl⟩
    | ok l2 st2=>
     have HRR:Hid (R=qa5 s f ks m l2 st2):=v7 (by rw [q9 hR,qs9 hc hj])
     have HJ:=v7 hj
     clear hc CON hR hj c0 c2 c3 c4 c5 c6 fz hk0
     go_wp2_with (first|(go_at_call 132;refine (q9 HCON _ (q9 HKS)).mono ?_;rintro e w' ⟨rfl,rfl⟩)|(go_at_call 133;refine (va4 rb s op f (q9 HF) sl l _ _ (q9 hready) hopl (q9 HND)).mono ?_;rintro e w2 ⟨hk2,h2⟩;rw [q9 HJ] at h2;obtain ⟨v2,rfl,hn2,hr2,hf2,ho2,hp2⟩:=h2;have HPL2:=v7 (qt5 hr2);have hr2:=v7 hr2;have hn2:=v7 hn2;have hk2:=v7 hk2;have hf2:=v7 hf2))
     have hb2:=(q9 hf2).place
     go_roundw
     case rel=>exact ⟨m,l2,st2,HRR,by omega,q9 hn2,v7 ((q9 hready).kept (q9 hk2) (q9 hr2) (q9 hf2)),ho2,by omega,(q9 HK).trans (q9 hk2)⟩
     case measure=>rw [q9 HPL,q9 HPL2];omega
theorem za5 (rb ob cap:Nat) (s:ByteArray) (op:Nat) (f:St→Res) (hf:qe8 291 rb s op f) (ks:List Int) (hks:ks.length≤8) (h0:ks.contains 0=false) (st:St) (w:World) (h:Ready rb s w st) (hop:st.op=op) (ho:KsAt w ob ks) (hob:ob<w.heap.size) (hne:¬ob=rb) :
  Calls Tryz.prog 85 #[.pointer (some ⟨rb,0,none⟩),.func (.func 291) #[.pointer (some ⟨rb,0,none⟩)] #[],.slice (some ⟨ob,0,none⟩) ks.length cap] w (Gives rb s w op st.place (qg3 s f ks st)):=by
 have H:=v7 h
 have HF:=v7 hf
 have HO:=v7 ho
 have hlt:=h.lt
 clear h hf ho
 cases hres:f st with
 | err en pl=>
  rw [qz2 hres]
  have HRES:=v7 hres
  clear hres
  go_enter Tryz.func85,Tryz.ntmps85
  go_wp2_with (go_at_call 291;refine (q9 HF _ st (q9 H) hop).mono ?_;rintro e w1 ⟨hk1,h1⟩;rw [q9 HRES] at h1;subst h1;simp only [x4])
  exact ⟨rfl,hk1,rfl⟩
 | ok l0 st0=>
  rw [vc9 hres]
  have HRES:=v7 hres
  clear hres
  obtain ⟨R,hR⟩:∃r,qa5 s f ks (s.size+1) l0 st0=r:=⟨_,rfl⟩
  rw [hR]
  have HR:=v7 hR
  clear hR
  go_enter Tryz.func85,Tryz.ntmps85
  go_wp2_with (go_at_call 291;refine (q9 HF _ st (q9 H) hop).mono ?_;rintro e w1 ⟨hk1,h1⟩;rw [q9 HRES] at h1;obtain ⟨v1,rfl,hn1,hr1,hf1,ho1,hp1⟩:=h1;have hn1:=v7 hn1;have hr1:=v7 hr1;have hk1:=v7 hk1;have hf1:=v7 hf1)
  go_loopw [7] (fun v wr=>∃(n:Nat) (l:Ast) (sl:St),Hid (R=qa5 s f ks n l sl)∧s.size<n+sl.place∧IsNode rb wr v l∧Hid (Ready rb s wr sl)∧sl.op=op∧st.place≤sl.place∧Kept rb w wr) (fun v wr=>s.size+1 - plOf wr rb)
  case atStart=>exact ⟨s.size+1,l0,st0,v7 (q9 HR).symm,by omega,q9 hn1,v7 ((q9 H).kept (q9 hk1) (q9 hr1) (q9 hf1)),ho1,hp1,q9 hk1⟩
  case round=>
   obtain ⟨n,l,sl,hR,hn,hnode,hready,hopl,hpl,hk⟩:=hrel
   have hfine:=(q9 hready).fine
   have hf1':=hfine.place
   obtain ⟨lb,rfl⟩:=hnode.ptr
   obtain ⟨m,rfl⟩:∃m,n=m+1:=⟨n - 1,by omega⟩
   have HKS:=v7 ((q9 HO).kept hk hob hne)
   have HND:=v7 hnode
   have HK:=v7 hk
   have hltr:=(q9 hready).lt
   have HPL:=v7 (qt5 (q9 hready).at')
   obtain ⟨c0,c1,c2,c3,c4,c5,c6,fz⟩:=(q9 hready).at'
   clear hnode hk
   have CON:=fun w=>qq2 ob cap ks sl.tk.kind w hks
   cases hc:ks.contains sl.tk.kind with
   | false=>
    have HRR:Hid (R=.ok l sl):=v7 (by rw [q9 hR,qt0 hc])
    rw [hc] at CON
    have HCON:=v7 CON
    clear hc CON hR c0 c2 c3 c4 c5 c6 fz
    go_wp2_with (go_at_call 132;refine (q9 HCON _ (q9 HKS)).mono ?_;rintro e w' ⟨rfl,rfl⟩)
    go_ret
    rw [q9 HRR]
    exact ⟨q9 HK,_,rfl,q9 HND,(q9 hready).at',hfine,hopl,hpl⟩
   | true=>
    rw [hc] at CON
    have HCON:=v7 CON
    have hk0:sl.tk.kind≠0:=fun h=>by rw [h,h0] at hc;cases hc
    have hlong:=hfine.long hk0
    cases hj:qb4 s f sl l with
    | err en pl=>
     have HRR:Hid (R=.err en pl):=v7 (by rw [q9 hR,qw0 hc hj])
     have HJ:=v7 hj
     clear hc CON hR hj c0 c2 c3 c4 c5 c6 fz hk0
     go_wp2_with (first|(go_at_call 132;refine (q9 HCON _ (q9 HKS)).mono ?_;rintro e w' ⟨rfl,rfl⟩)|(go_at_call 133;refine (vc3 rb s op f (q9 HF) sl l _ _ (q9 hready) hopl (q9 HND)).mono ?_;rintro e w2 ⟨hk2,h2⟩;rw [q9 HJ] at h2;subst h2;simp only [x4]))
     rw [q9 HRR]
     exact ⟨rfl,(q9 HK).trans hk2,rfl⟩
    | ok l2 st2=>
     have HRR:Hid (R=qa5 s f ks m l2 st2):=v7 (by rw [q9 hR,qs9 hc hj])
     have HJ:=v7 hj
     clear hc CON hR hj c0 c2 c3 c4 c5 c6 fz hk0
     go_wp2_with (first|(go_at_call 132;refine (q9 HCON _ (q9 HKS)).mono ?_;rintro e w' ⟨rfl,rfl⟩)|(go_at_call 133;refine (vc3 rb s op f (q9 HF) sl l _ _ (q9 hready) hopl (q9 HND)).mono ?_;rintro e w2 ⟨hk2,h2⟩;rw [q9 HJ] at h2;obtain ⟨v2,rfl,hn2,hr2,hf2,ho2,hp2⟩:=h2;have HPL2:=v7 (qt5 hr2);have hr2:=v7 hr2;have hn2:=v7 hn2;have hk2:=v7 hk2;have hf2:=v7 hf2))
     have hb2:=(q9 hf2).place
     go_roundw
     case rel=>exact ⟨m,l2,st2,HRR,by omega,q9 hn2,v7 ((q9 hready).kept (q9 hk2) (q9 hr2) (q9 hf2)),ho2,by omega,(q9 HK).trans (q9 hk2)⟩
     case measure=>rw [q9 HPL,q9 HPL2];omega
end
section
theorem Ready.allocd {rb:Nat} {s:ByteArray} {w:World} {st:St} (h:Ready rb s w st) (o:Obj):Ready rb s (w.alloc o) st:=
 h.kept ((Kept.refl rb w).alloc o) (h.at'.allocd o h.lt) h.fine
theorem Gives.from {rb:Nat} {s:ByteArray} {w w1:World} {op lo:Nat} {r:Res} {e:Ending} {w':World} (hk:Kept rb w w1) (h:Gives rb s w1 op lo r e w'):Gives rb s w op lo r e w':=⟨hk.trans h.1,h.2⟩
theorem Gives.cases {rb:Nat} {s:ByteArray} {w:World} {op lo:Nat} {r:Res} {e:Ending} {w':World} (h:Gives rb s w op lo r e w'):(∃v,e=.returned v∧Gives rb s w op lo r (.returned v) w')∨(∃en pl,e=x4 en pl∧Gives rb s w op lo r (x4 en pl) w'):=by
 cases r with
 | ok t st=>obtain ⟨hk,v,rfl,h2⟩:=h;exact .inl ⟨v,rfl,hk,v,rfl,h2⟩
 | err en pl=>obtain ⟨hk,rfl⟩:=h;exact .inr ⟨en,pl,rfl,hk,rfl⟩
theorem jb1 (rb:Nat) (s:ByteArray) (op:Nat) (f:St→Res) (hf:qe8 86 rb s op f):qe8 56 rb s op (qg3 s f [6]):=by
 intro w st h hop
 have H:=v7 h
 have HF:=v7 hf
 have hmf:∀(fn:Fn) (first cap:Array Value) (w:World),(Instr.makeFunc fn first cap).run Tryz.prog w=.ok (.func fn first cap) w:=fun _ _ _ _=>rfl
 have hlt:=h.lt
 clear h hf
 go_enter Tryz.func56,Tryz.ntmps56
 go_wp2_with fail
 refine (row_both rb w.heap.size 1 s op f (q9 HF) [6] (by decide) (by decide) st _ ((q9 H).allocd _) hop ?ks (by simp) (by omega)).mono ?_
 case ks=>
  intro j k hj
  match j,hj with
  | 0,hj=>simp at hj;subst hj;simp
 rintro e w' hg
 rcases hg.cases with ⟨v,rfl,hg⟩|⟨en,pl,rfl,hg⟩
 ·have HG:=v7 (hg.from ((Kept.refl rb w).alloc _))
  clear hg
  go_wp2_with fail
  go_ret
  exact q9 HG
 ·exact ⟨rfl,hg.from ((Kept.refl rb w).alloc _)⟩
theorem ju7 (rb:Nat) (s:ByteArray) (op:Nat) (f:St→Res) (hf:qe8 134 rb s op f):qe8 86 rb s op (qg3 s f [5]):=by
 intro w st h hop
 have H:=v7 h
 have HF:=v7 hf
 have hmf:∀(fn:Fn) (first cap:Array Value) (w:World),(Instr.makeFunc fn first cap).run Tryz.prog w=.ok (.func fn first cap) w:=fun _ _ _ _=>rfl
 have hlt:=h.lt
 clear h hf
 go_enter Tryz.func86,Tryz.ntmps86
 go_wp2_with fail
 refine (za4 rb w.heap.size 1 s op f (q9 HF) [5] (by decide) (by decide) st _ ((q9 H).allocd _) hop ?ks (by simp) (by omega)).mono ?_
 case ks=>
  intro j k hj
  match j,hj with
  | 0,hj=>simp at hj;subst hj;simp
 rintro e w' hg
 rcases hg.cases with ⟨v,rfl,hg⟩|⟨en,pl,rfl,hg⟩
 ·have HG:=v7 (hg.from ((Kept.refl rb w).alloc _))
  clear hg
  go_wp2_with fail
  go_ret
  exact q9 HG
 ·exact ⟨rfl,hg.from ((Kept.refl rb w).alloc _)⟩
theorem sum_reads (rb:Nat) (s:ByteArray) (op:Nat) (f:St→Res) (hf:qe8 252 rb s op f):qe8 214 rb s op (qg3 s f [22,23]):=by
 intro w st h hop
 have H:=v7 h
 have HF:=v7 hf
 have hmf:∀(fn:Fn) (first cap:Array Value) (w:World),(Instr.makeFunc fn first cap).run Tryz.prog w=.ok (.func fn first cap) w:=fun _ _ _ _=>rfl
 have hlt:=h.lt
 clear h hf
 go_enter Tryz.func214,Tryz.ntmps214
 go_wp2_with fail
 refine (jn0 rb w.heap.size 2 s op f (q9 HF) [22,23] (by decide) (by decide) st _ ((q9 H).allocd _) hop ?ks (by simp) (by omega)).mono ?_
 case ks=>
  intro j k hj
  match j,hj with
  | 0,hj=>simp at hj;subst hj;simp
  | 1,hj=>simp at hj;subst hj;simp
 rintro e w' hg
 rcases hg.cases with ⟨v,rfl,hg⟩|⟨en,pl,rfl,hg⟩
 ·have HG:=v7 (hg.from ((Kept.refl rb w).alloc _))
  clear hg
  go_wp2_with fail
  go_ret
  exact q9 HG
 ·exact ⟨rfl,hg.from ((Kept.refl rb w).alloc _)⟩
theorem vx3 (rb:Nat) (s:ByteArray) (op:Nat) (f:St→Res) (hf:qe8 291 rb s op f):qe8 252 rb s op (qg3 s f [24,25]):=by
 intro w st h hop
 have H:=v7 h
 have HF:=v7 hf
 have hmf:∀(fn:Fn) (first cap:Array Value) (w:World),(Instr.makeFunc fn first cap).run Tryz.prog w=.ok (.func fn first cap) w:=fun _ _ _ _=>rfl
 have hlt:=h.lt
 clear h hf
 go_enter Tryz.func252,Tryz.ntmps252
 go_wp2_with fail
 refine (za5 rb w.heap.size 2 s op f (q9 HF) [24,25] (by decide) (by decide) st _ ((q9 H).allocd _) hop ?ks (by simp) (by omega)).mono ?_
 case ks=>
  intro j k hj
  match j,hj with
  | 0,hj=>simp at hj;subst hj;simp
  | 1,hj=>simp at hj;subst hj;simp
 rintro e w' hg
 rcases hg.cases with ⟨v,rfl,hg⟩|⟨en,pl,rfl,hg⟩
 ·have HG:=v7 (hg.from ((Kept.refl rb w).alloc _))
  clear hg
  go_wp2_with fail
  go_ret
  exact q9 HG
 ·exact ⟨rfl,hg.from ((Kept.refl rb w).alloc _)⟩
end
section
def va3 (s:ByteArray) (st:St):St:={ v9 s st with op:=st.op+1 }
def qh6 (s:ByteArray) (f:St→Res) (st:St):Res:=if st.op=12 then .err 3 st.place else match f (va3 s st) with
 | .ok t st'=>if st'.tk.kind=27 then .ok t { v9 s st' with op:=st.op } else .err 2 st'.place
 | .err en pl=>.err en pl
theorem Fine.op {s:ByteArray} {st:St} (h:Fine s st) (n:Nat):Fine s { st with op:=n }:=⟨h.place,h.after,h.long⟩
theorem Fine.next {s:ByteArray} {st:St} (h:Fine s st):Fine s (v9 s st):=qm7 s st h.after
theorem Fine.le {s:ByteArray} {st:St} (h:Fine s st) (hk:st.tk.kind≠0):st.place≤(v9 s st).place:=Nat.le_trans (Nat.le_of_lt (h.long hk)) (qi2 s st)
theorem jj0 (rb:Nat) (s:ByteArray) (op:Nat) (hop:op≤12) (f:St→Res) (hf:op<12→qe8 56 rb s (op+1) f) (w:World) (st:St) (h:Ready rb s w st) (ho:st.op=op) (hk0:st.tk.kind≠0) :
  Calls Tryz.prog 317 #[.pointer (some ⟨rb,0,none⟩)] w (Gives rb s w op st.place (qh6 s f st)):=by
 have H:=v7 h
 have hlt:=h.lt
 by_cases h12:st.op=12
 ·rw [qh6,if_pos h12]
  have H12:=v7 h12
  clear h hf h12
  go_enter Tryz.func317,Tryz.ntmps317
  go_wp2_with (go_at_call 184;refine (vv7 rb s st _ (q9 H).at' hlt (q9 H12)).mono ?_;rintro e w1 ⟨rfl,hk1⟩;simp only [x4])
  exact ⟨rfl,hk1,rfl⟩
 ·have hlt12:op<12:=by omega
  have HF:=v7 (hf hlt12)
  have hle:=h.fine.le hk0
  rw [qh6,if_neg h12]
  have HS:Hid (st.op<12):=v7 (by omega)
  have READY:∀w1,Kept rb w w1→RdAt w1 rb s (va3 s st)→Ready rb s w1 (va3 s st):=fun w1 hk hr=>h.kept hk hr (h.fine.next.op _)
  have HREADY:=v7 READY
  have hin:(va3 s st).op=op+1:=by show st.op+1=op+1;omega
  have HIN:=v7 hin
  clear h hf h12 READY hin
  cases hres:f (va3 s st) with
  | err en pl=>
   have HRES:=v7 hres
   clear hres
   go_enter Tryz.func317,Tryz.ntmps317
   go_wp2_with (first|(go_at_call 184;refine (qv2 rb s st _ (q9 H).size (q9 H).fine.after (q9 H).at' hlt (q9 H).err (q9 H).glob (q9 HS)).mono ?_;rintro e w1 ⟨rfl,hr1,hk1⟩;have hr1:=v7 hr1;have hk1:=v7 hk1;simp only [tkV])|(go_at_call 56;refine (q9 HF _ (va3 s st) (q9 HREADY _ (q9 hk1) (q9 hr1)) (q9 HIN)).mono ?_;rintro e w2 ⟨hk2,h2⟩;rw [q9 HRES] at h2;subst h2;simp only [x4]))
   exact ⟨rfl,(q9 hk1).trans hk2,rfl⟩
  | ok t st2=>
   have HRES:=v7 hres
   clear hres
   by_cases h27:st2.tk.kind=27
   ·simp only [if_pos h27]
    have H27:=v7 h27
    have Hne:Hid (st2.tk.kind≠0):=v7 (by rw [h27];decide)
    clear h27
    go_enter Tryz.func317,Tryz.ntmps317
    go_wp2_with (first|(go_at_call 184;refine (qv2 rb s st _ (q9 H).size (q9 H).fine.after (q9 H).at' hlt (q9 H).err (q9 H).glob (q9 HS)).mono ?_;rintro e w1 ⟨rfl,hr1,hk1⟩;have hr1:=v7 hr1;have hk1:=v7 hk1;simp only [tkV])|(go_at_call 56;refine (q9 HF _ (va3 s st) (q9 HREADY _ (q9 hk1) (q9 hr1)) (q9 HIN)).mono ?_;rintro e w2 ⟨hk2,h2⟩;rw [q9 HRES] at h2;obtain ⟨v2,rfl,hn2,hr2,hf2,ho2,hp2⟩:=h2;obtain ⟨vb,rfl⟩:=hn2.ptr;have hR2:=v7 ((q9 H).kept ((q9 hk1).trans hk2) hr2 hf2);have hn2:=v7 hn2;have hk2:=v7 hk2;have hf2:=v7 hf2;have ho2:=v7 ho2;clear hr2)|(go_at_call 57;refine (qb2 rb s st2 27 _ (q9 hR2).size (q9 hf2).after (q9 hR2).at' (q9 hR2).lt (q9 hR2).err (q9 H27)).mono ?_;rintro e w3 ⟨rfl,hr3,hk3⟩;have d6:w3.cell? ⟨rb,6,none⟩=some (.int .i64 ((op:Int)+1)):=(by rw [hr3.c6,stepSt_op,q9 ho2];simp);have dz:=hr3.fz;have hr3:=v7 hr3;have hk3:=v7 hk3;simp only [tkV]))
    go_ret
    refine ⟨(((q9 hk1).trans (q9 hk2)).trans (q9 hk3)).setCell 6 _,_,rfl,(q9 hn2).kept ((q9 hk3).setCell 6 _),(q9 hr3).setOp st.op _ (by omega),(q9 hf2).next.op _,ho, ?_⟩
    have h1:=(q9 hf2).le (q9 Hne)
    have h2:(va3 s st).place=(v9 s st).place:=rfl
    show st.place≤(v9 s st2).place
    omega
   ·simp only [if_neg h27]
    have H27:=v7 h27
    clear h27
    go_enter Tryz.func317,Tryz.ntmps317
    go_wp2_with (first|(go_at_call 184;refine (qv2 rb s st _ (q9 H).size (q9 H).fine.after (q9 H).at' hlt (q9 H).err (q9 H).glob (q9 HS)).mono ?_;rintro e w1 ⟨rfl,hr1,hk1⟩;have hr1:=v7 hr1;have hk1:=v7 hk1;simp only [tkV])|(go_at_call 56;refine (q9 HF _ (va3 s st) (q9 HREADY _ (q9 hk1) (q9 hr1)) (q9 HIN)).mono ?_;rintro e w2 ⟨hk2,h2⟩;rw [q9 HRES] at h2;obtain ⟨v2,rfl,hn2,hr2,hf2,ho2,hp2⟩:=h2;obtain ⟨vb,rfl⟩:=hn2.ptr;have hR2:=v7 ((q9 H).kept ((q9 hk1).trans hk2) hr2 hf2);have hn2:=v7 hn2;have hk2:=v7 hk2;have hf2:=v7 hf2;have ho2:=v7 ho2;clear hr2)|(go_at_call 57;refine (qm8 rb s st2 27 _ (q9 hR2).at' (q9 hR2).lt (q9 H27)).mono ?_;rintro e w3 ⟨rfl,hk3⟩;simp only [x4]))
    exact ⟨rfl,((q9 hk1).trans (q9 hk2)).trans hk3,rfl⟩
theorem IsNode.one {rb:Nat} {w:World} {l:Ast} {lv:Value} (hl:IsNode rb w lv l) (hlt:rb<w.heap.size) (op place:Int) :
  IsNode rb ((w.alloc (.cells #[lv] 74)).alloc (.cells #[.int .i64 op,.int .i64 place,.slice (some ⟨w.heap.size,0,none⟩) 1 1,.int .i64 0,.string ⟨#[]⟩,.string ⟨#[]⟩,.slice none 0 0] 138))
   (.pointer (some ⟨w.heap.size+1,0,none⟩)) (.un ⟨op,place,0,[],[],[]⟩ l):=by
 have hk:Kept rb w ((w.alloc (.cells #[lv] 74)).alloc (.cells #[.int .i64 op,.int .i64 place,.slice (some ⟨w.heap.size,0,none⟩) 1 1,.int .i64 0,.string ⟨#[]⟩,.string ⟨#[]⟩,.slice none 0 0] 138)):=((Kept.refl rb w).alloc _).alloc _
 refine ⟨w.heap.size+1,w.heap.size,lv,rfl,⟨by omega,by simp,by simp,by simp,by simp,by simp,by simp [BS],by simp [BS],.slice none 0 0,by simp,.inl ⟨rfl,rfl⟩⟩,hlt,by simp;omega, ?_,hl.kept hk⟩
 rw [World.cell?_alloc_past _ _ _ (by simp),World.cell?_alloc_at _ _ _ _ rfl];rfl
theorem qz1 (rb:Nat) (x:Ast) (xv:Value) (place:Int) (w:World) (hx:IsNode rb w xv x) (hlt:rb<w.heap.size) :
  Calls Tryz.prog 185 #[xv,.int .i64 place] w fun e w'=>(∃v,e=.returned v∧IsNode rb w' v (.un ⟨5,place,0,[],[],[]⟩ x))∧Below w.heap.size w w':=by
 obtain ⟨b,rfl⟩:=hx.ptr
 have HX:=v7 hx
 clear hx
 go_enter Tryz.func185,Tryz.ntmps185
 go_wp2_with fail
 go_ret
 exact ⟨⟨_,rfl,(q9 HX).one hlt 5 place⟩,qh0 _ _ _⟩
end
section
def qg7 (s:ByteArray) (f:St→Res) (o:Int) (st:St):Res:=if st.op=12 then .err 3 st.place else match f (va3 s st) with
 | .ok x st'=>.ok (.un ⟨o,st.place,0,[],[],[]⟩ x) { st' with op:=st.op }
 | .err en pl=>.err en pl
theorem vt8 (rb:Nat) (s:ByteArray) (op:Nat) (hop:op≤12) (f:St→Res) (hf:op<12→qe8 291 rb s (op+1) f) (o:Int) (w:World) (st:St) (h:Ready rb s w st) (ho:st.op=op) (hk0:st.tk.kind≠0) :
  Calls Tryz.prog 316 #[.pointer (some ⟨rb,0,none⟩),.int .i64 o] w (Gives rb s w op st.place (qg7 s f o st)):=by
 have H:=v7 h
 have hlt:=h.lt
 by_cases h12:st.op=12
 ·rw [qg7,if_pos h12]
  have H12:=v7 h12
  clear h hf h12
  go_enter Tryz.func316,Tryz.ntmps316
  go_wp2_with (go_at_call 184;refine (vv7 rb s st _ (q9 H).at' hlt (q9 H12)).mono ?_;rintro e w1 ⟨rfl,hk1⟩;simp only [x4])
  exact ⟨rfl,hk1,rfl⟩
 ·have hlt12:op<12:=by omega
  have HF:=v7 (hf hlt12)
  have hle:=h.fine.le hk0
  rw [qg7,if_neg h12]
  have HS:Hid (st.op<12):=v7 (by omega)
  have READY:∀w1,Kept rb w w1→RdAt w1 rb s (va3 s st)→Ready rb s w1 (va3 s st):=fun w1 hk hr=>h.kept hk hr (h.fine.next.op _)
  have HREADY:=v7 READY
  have hin:(va3 s st).op=op+1:=by show st.op+1=op+1;omega
  have HIN:=v7 hin
  clear h hf h12 READY hin
  cases hres:f (va3 s st) with
  | err en pl=>
   have HRES:=v7 hres
   clear hres
   go_enter Tryz.func316,Tryz.ntmps316
   go_wp2_with (first|(go_at_call 184;refine (qv2 rb s st _ (q9 H).size (q9 H).fine.after (q9 H).at' hlt (q9 H).err (q9 H).glob (q9 HS)).mono ?_;rintro e w1 ⟨rfl,hr1,hk1⟩;have hr1:=v7 hr1;have hk1:=v7 hk1;simp only [tkV])|(go_at_call 291;refine (q9 HF _ (va3 s st) ((q9 HREADY _ (q9 hk1) (q9 hr1)).allocd _) (q9 HIN)).mono ?_;rintro e w2 ⟨hk2,h2⟩;rw [q9 HRES] at h2;subst h2;simp only [x4]))
   exact ⟨rfl,((q9 hk1).alloc _).trans hk2,rfl⟩
  | ok x st2=>
   have HRES:=v7 hres
   clear hres
   go_enter Tryz.func316,Tryz.ntmps316
   go_wp2_with (first|(go_at_call 184;refine (qv2 rb s st _ (q9 H).size (q9 H).fine.after (q9 H).at' hlt (q9 H).err (q9 H).glob (q9 HS)).mono ?_;rintro e w1 ⟨rfl,hr1,hk1⟩;have hz1:=hk1.size;have hr1:=v7 hr1;have hk1:=v7 hk1;have n1:¬w1.heap.size=rb:=(by omega);have n2:¬rb=w1.heap.size:=(by omega);simp only [tkV])|(go_at_call 291;refine (q9 HF _ (va3 s st) ((q9 HREADY _ (q9 hk1) (q9 hr1)).allocd _) (q9 HIN)).mono ?_;rintro e w2 ⟨hk2,h2⟩;rw [q9 HRES] at h2;obtain ⟨v2,rfl,hn2,hr2,hf2,ho2,hp2⟩:=h2;obtain ⟨vb,rfl⟩:=hn2.ptr;have hz2:w1.heap.size<w2.heap.size:=(by have:=hk2.size;simp at this;omega);have q1:w2.cell? ⟨w1.heap.size,1,none⟩=some (.int .i64 st.place):=((x5 hk2).1 _ 1 (by simp) n1).trans (by simp);have d6:w2.cell? ⟨rb,6,none⟩=some (.int .i64 ((op:Int)+1)):=(by rw [hr2.c6,ho2];simp);have dz:=hr2.fz;have hr2:=v7 hr2;have hn2:=v7 hn2;have hk2:=v7 hk2;have hf2:=v7 hf2;have ho2:=v7 ho2))
   go_ret
   have hlt2:rb<w2.heap.size:=by omega
   refine ⟨((((((q9 hk1).alloc _).trans (q9 hk2)).setCell 6 _).alloc _).alloc _),_,rfl, ?_, ?_,(q9 hf2).op _,ho, ?_⟩
   ·have:=IsNode.one ((q9 hn2).kept ((Kept.refl rb w2).setCell 6 (.int .i64 (op:Int)))) (by rw [x9];exact hlt2) o st.place
    simpa using this
   ·exact (((q9 hr2).setOp st.op _ (by omega)).allocd _ (by simpa using hlt2)).allocd _ (by simp;omega)
   ·have h2:(va3 s st).place=(v9 s st).place:=rfl
    show st.place≤st2.place
    omega
end
end Go.Proofs.YtfkcaldjphakpabGreatDoor
