/- Terms in memory; what a reading function gives. joined: a term of two sides, whatever reads the second one. row: operands with operators of one rank between them, whatever reads an operand. either, both, sum, product: rows of operators, each over what reads its operand. -/
import Derived.Test.YtfkcaldjphakpaaGreatDoorM11
import Derived.Deep.RegionHeld3
set_option maxHeartbeats 1000000
set_option maxRecDepth 100000
namespace Go.Proofs.YtfkcaldjphakpaaGreatDoor
open Go.RowKit
section
structure Pay where
 op:Int
 place:Int
 num:Int
 str:List UInt8
 esc:List UInt8
 texts:List (List UInt8)
inductive Ast where
 | leaf (p:Pay)
 | un (p:Pay) (x:Ast)
 | bin (p:Pay) (x y:Ast)
 | tri (p:Pay) (x y z:Ast)
def TextsAt (lo:Nat) (w:World) (v:Value) (ts:List (List UInt8)):Prop:=
 (ts=[]∧v=.slice none 0 0)∨∃g cap,v=.slice (some ⟨g,0,none⟩) ts.length cap∧lo<g∧g<w.heap.size∧∀(j:Nat) (t:List UInt8),ts[j]?=some t→w.cell? ⟨g,j,none⟩=some (.string (BS t))
structure NodeAt (lo:Nat) (w:World) (b:Nat) (p:Pay) (sides:Value):Prop where
 above:lo<b
 within:b<w.heap.size
 c0:w.cell? ⟨b,0,none⟩=some (.int .i64 p.op)
 c1:w.cell? ⟨b,1,none⟩=some (.int .i64 p.place)
 c2:w.cell? ⟨b,2,none⟩=some sides
 c3:w.cell? ⟨b,3,none⟩=some (.int .i64 p.num)
 c4:w.cell? ⟨b,4,none⟩=some (.string (BS p.str))
 c5:w.cell? ⟨b,5,none⟩=some (.string (BS p.esc))
 c6:∃tv,w.cell? ⟨b,6,none⟩=some tv∧TextsAt lo w tv p.texts
def IsNode (lo:Nat) (w:World):Value→Ast→Prop
 | v,.leaf p=>∃b,v=.pointer (some ⟨b,0,none⟩)∧NodeAt lo w b p (.slice none 0 0)
 | v,.un p x=>∃b g v1,v=.pointer (some ⟨b,0,none⟩)∧NodeAt lo w b p (.slice (some ⟨g,0,none⟩) 1 1)∧lo<g∧g<w.heap.size∧w.cell? ⟨g,0,none⟩=some v1∧IsNode lo w v1 x
 | v,.bin p x y=>∃b g v1 v2,v=.pointer (some ⟨b,0,none⟩)∧NodeAt lo w b p (.slice (some ⟨g,0,none⟩) 2 2)∧lo<g∧g<w.heap.size∧w.cell? ⟨g,0,none⟩=some v1∧w.cell? ⟨g,1,none⟩=some v2∧IsNode lo w v1 x∧IsNode lo w v2 y
 | v,.tri p x y z=>∃b g v1 v2 v3,v=.pointer (some ⟨b,0,none⟩)∧NodeAt lo w b p (.slice (some ⟨g,0,none⟩) 3 3)∧lo<g∧g<w.heap.size∧w.cell? ⟨g,0,none⟩=some v1∧w.cell? ⟨g,1,none⟩=some v2∧w.cell? ⟨g,2,none⟩=some v3∧IsNode lo w v1 x∧IsNode lo w v2 y∧IsNode lo w v3 z
theorem TextsAt.kept {lo:Nat} {w w':World} (hk:Kept lo w w') {v:Value} {ts:List (List UInt8)} (h:TextsAt lo w v ts):TextsAt lo w' v ts:=by
 rcases h with h|⟨g,cap,hv,hg,hg2,hc⟩
 ·exact .inl h
 ·exact .inr ⟨g,cap,hv,hg,Nat.lt_of_lt_of_le hg2 hk.size,fun j t ht=>((qc2 hk).1 g j hg2 (by omega)).trans (hc j t ht)⟩
theorem NodeAt.kept {lo:Nat} {w w':World} (hk:Kept lo w w') {b:Nat} {p:Pay} {sides:Value} (h:NodeAt lo w b p sides):NodeAt lo w' b p sides:=by
 obtain ⟨h1,h2,c0,c1,c2,c3,c4,c5,tv,c6,ht⟩:=h
 have hc:=fun j=>(qc2 hk).1 b j h2 (by omega)
 exact ⟨h1,Nat.lt_of_lt_of_le h2 hk.size,(hc 0).trans c0,(hc 1).trans c1,(hc 2).trans c2,(hc 3).trans c3,(hc 4).trans c4,(hc 5).trans c5,tv,(hc 6).trans c6,ht.kept hk⟩
theorem IsNode.kept {lo:Nat} {w w':World} (hk:Kept lo w w'):∀{t:Ast} {v:Value},IsNode lo w v t→IsNode lo w' v t:=by
 have hc:=fun g j (h1:lo<g) (h2:g<w.heap.size)=>(qc2 hk).1 g j h2 (by omega)
 intro t
 induction t with
 | leaf p=>rintro v ⟨b,rfl,h⟩;exact ⟨b,rfl,h.kept hk⟩
 | un p x ih=>
  rintro v ⟨b,g,v1,rfl,h,h1,h2,e1,n1⟩
  exact ⟨b,g,v1,rfl,h.kept hk,h1,Nat.lt_of_lt_of_le h2 hk.size,(hc g 0 h1 h2).trans e1,ih n1⟩
 | bin p x y ihx ihy=>
  rintro v ⟨b,g,v1,v2,rfl,h,h1,h2,e1,e2,n1,n2⟩
  exact ⟨b,g,v1,v2,rfl,h.kept hk,h1,Nat.lt_of_lt_of_le h2 hk.size,(hc g 0 h1 h2).trans e1,(hc g 1 h1 h2).trans e2,ihx n1,ihy n2⟩
 | tri p x y z ihx ihy ihz=>
  rintro v ⟨b,g,v1,v2,v3,rfl,h,h1,h2,e1,e2,e3,n1,n2,n3⟩
  exact ⟨b,g,v1,v2,v3,rfl,h.kept hk,h1,Nat.lt_of_lt_of_le h2 hk.size,(hc g 0 h1 h2).trans e1,(hc g 1 h1 h2).trans e2,(hc g 2 h1 h2).trans e3,ihx n1,ihy n2,ihz n3⟩
inductive Res where
 | ok (t:Ast) (st:St)
 | err (en pl:Int)
structure Fine (s:ByteArray) (st:St):Prop where
 place:st.place≤s.size
 after:st.after≤s.size
 long:st.tk.kind≠0→st.place<st.after
def Gives (rb:Nat) (s:ByteArray) (w:World) (op lo:Nat) (r:Res) (e:Ending) (w':World):Prop:=
 Kept rb w w'∧match r with
 | .ok t st=>∃v,e=.returned v∧IsNode rb w' v t∧RdAt w' rb s st∧Fine s st∧st.op=op∧lo≤st.place
 | .err en pl=>e=qb4 en pl
structure Ready (rb:Nat) (s:ByteArray) (w:World) (st:St):Prop where
 at':RdAt w rb s st
 lt:rb<w.heap.size
 err:ErrOk w
 glob:3<rb
 fine:Fine s st
 size:s.size≤140737488355328
def qg4 (K:Nat) (rb:Nat) (s:ByteArray) (op:Nat) (f:St→Res):Prop:=
 ∀(w:World) (st:St),Ready rb s w st→st.op=op→Calls Tryz.prog K #[.pointer (some ⟨rb,0,none⟩)] w (Gives rb s w op st.place (f st))
theorem Ready.kept {rb:Nat} {s:ByteArray} {w w':World} {st st':St} (h:Ready rb s w st) (hk:Kept rb w w') (hr:RdAt w' rb s st') (ha:Fine s st'):Ready rb s w' st':=
 ⟨hr,Nat.lt_of_lt_of_le h.lt hk.size,h.err.kept hk h.glob,h.glob,ha,h.size⟩
theorem jc3 {p:UInt8→Bool} {c:UInt8} {t:List UInt8} (h:p c=true):0<qc0 p (c::t):=by simp [qc0,h]
theorem va7 (l:List UInt8) (h:0<l.length):0<qw3 l:=by
 cases l with
 | nil=>simp at h
 | cons c t=>
  simp only [qw3]
  split
  ·rename_i hb;simp [qb8,hb]
  ·split
   ·rename_i hd;exact jc3 hd
   ·split
    ·unfold qu7;split
     ·omega
     ·exact h
    ·unfold qt9;split
     ·omega
     ·omega
     ·split<;>omega
theorem qa7 (s:ByteArray) (st:St) (h:st.after≤s.size):Fine s (j3 s st):=by
 have h1:=vt3 s.data.toList st.after (by rw [qa5];exact h)
 have h2:=vt4 s.data.toList st.after
 rw [qa5] at h1 h2
 refine ⟨h1,h2,fun hk=>?_⟩
 show qe5 s.data.toList st.after<qi1 s.data.toList st.after
 unfold qi1
 by_cases hl:qe5 s.data.toList st.after<s.data.toList.length
 ·rw [if_pos hl]
  have:=va7 (s.data.toList.drop (qe5 s.data.toList st.after)) (by rw [List.length_drop];omega)
  omega
 ·exfalso;apply hk
  show (qd8 s.data.toList st.after).kind=0
  unfold qd8;rw [if_neg hl];rfl
theorem qf8 (s:ByteArray) (st:St):st.after≤(j3 s st).place:=by
 show st.after≤qe5 s.data.toList st.after
 unfold qe5;omega
end
section
def vr5 (st:St) (l r:Ast):Ast:=.bin ⟨qw9 st.tk.kind,st.place,0,[],[],[]⟩ l r
def qc9 (s:ByteArray) (f:St→Res) (st:St) (l:Ast):Res:=match f (j3 s st) with
 | .ok r st'=>.ok (vr5 st l r) st'
 | .err en pl=>.err en pl
theorem qg6 {s:ByteArray} {f:St→Res} {st:St} {l r:Ast} {st':St} (h:f (j3 s st)=.ok r st'):qc9 s f st l=.ok (vr5 st l r) st':=by unfold qc9;rw [h]
theorem qf2 {s:ByteArray} {f:St→Res} {st:St} {l:Ast} {en pl:Int} (h:f (j3 s st)=.err en pl):qc9 s f st l=.err en pl:=by unfold qc9;rw [h]
theorem gone {Q:Prop} {w:World} (h:Q) (_:wpAny Tryz.prog .any #[] (fun _ _ _=>True) 0 #[] ⟨#[],[]⟩ w):Q:=h
theorem stepSt_op (s:ByteArray) (st:St):(j3 s st).op=st.op:=rfl
theorem Ready.stepped {rb:Nat} {s:ByteArray} {w w1:World} {st:St} (h:Ready rb s w st) (hk:Kept rb w w1) (hr:RdAt w1 rb s (j3 s st)):Ready rb s w1.drew (j3 s st):=
 h.kept hk.drew (hr.below ((Below.refl w1.heap.size w1).drew) (Nat.lt_of_lt_of_le h.lt hk.size)) (qa7 s st h.fine.after)
theorem IsNode.ptr {rb:Nat} {w:World} {v:Value} {t:Ast} (h:IsNode rb w v t):∃b,v=.pointer (some ⟨b,0,none⟩):=by
 cases t with
 | leaf p=>obtain ⟨b,hv,_⟩:=h;exact ⟨b,hv⟩
 | un p x=>obtain ⟨b,g,v1,hv,_⟩:=h;exact ⟨b,hv⟩
 | bin p x y=>obtain ⟨b,g,v1,v2,hv,_⟩:=h;exact ⟨b,hv⟩
 | tri p x y z=>obtain ⟨b,g,v1,v2,v3,hv,_⟩:=h;exact ⟨b,hv⟩
theorem IsNode.two {rb:Nat} {w:World} {l r:Ast} {lv rv:Value} (hl:IsNode rb w lv l) (hr:IsNode rb w rv r) (hlt:rb<w.heap.size) (op place:Int) :
  IsNode rb ((w.alloc (.cells #[lv,rv] 67)).alloc (.cells #[.int .i64 op,.int .i64 place,.slice (some ⟨w.heap.size,0,none⟩) 2 2,.int .i64 0,.string ⟨#[]⟩,.string ⟨#[]⟩,.slice none 0 0] 102))
   (.pointer (some ⟨w.heap.size+1,0,none⟩)) (.bin ⟨op,place,0,[],[],[]⟩ l r):=by
 have hk:Kept rb w ((w.alloc (.cells #[lv,rv] 67)).alloc (.cells #[.int .i64 op,.int .i64 place,.slice (some ⟨w.heap.size,0,none⟩) 2 2,.int .i64 0,.string ⟨#[]⟩,.string ⟨#[]⟩,.slice none 0 0] 102)):=((Kept.refl rb w).alloc _).alloc _
 refine ⟨w.heap.size+1,w.heap.size,lv,rv,rfl,⟨by omega,by simp,by simp,by simp,by simp,by simp,by simp [BS],by simp [BS],.slice none 0 0,by simp,.inl ⟨rfl,rfl⟩⟩,hlt,by simp;omega, ?_, ?_,hl.kept hk,hr.kept hk⟩
 ·rw [World.cell?_alloc_past _ _ _ (by simp),World.cell?_alloc_at _ _ _ _ rfl];rfl
 ·rw [World.cell?_alloc_past _ _ _ (by simp),World.cell?_alloc_at _ _ _ _ rfl];rfl
theorem vf7 (rb:Nat) (s:ByteArray) (op:Nat) (f:St→Res) (hf:qg4 102 rb s op f) (st:St) (l:Ast) (lv:Value) (w:World) (h:Ready rb s w st) (hop:st.op=op) (hl:IsNode rb w lv l) :
  Calls Tryz.prog 146 #[.pointer (some ⟨rb,0,none⟩),lv,.func (.func 102) #[.pointer (some ⟨rb,0,none⟩)] #[]] w (Gives rb s w op st.after (qc9 s f st l)):=by
 have hr:=h.at'
 have hlt:=h.lt
 have H:=j4 h
 obtain ⟨c0,c1,c2,c3,c4,c5,c6,fz⟩:=hr
 have HF:=j4 hf
 obtain ⟨lb,rfl⟩:=hl.ptr
 have HL:=j4 hl
 have n0:¬w.heap.size=rb:=by omega
 clear hf h hl
 cases hres:f (j3 s st) with
 | ok r st'=>
  rw [qg6 hres]
  have HRES:=j4 hres
  clear hres
  go_enter Tryz.func146,Tryz.ntmps146
  go_wp2_with (go_at_call 54;refine (qd6 rb s st _ (q9 H).size (q9 H).fine.after ((q9 H).at'.allocd _ hlt) (by simp;omega) ((q9 H).err.alloc _)).mono ?_;rintro e w1 ⟨rfl,hr1,hk1⟩;have hr1:=j4 hr1;have hz1:w.heap.size<w1.heap.size:=(by have:=hk1.size;simp at this;omega);have p0:w1.cell? ⟨w.heap.size,0,none⟩=some (.int .i64 st.tk.kind):=((qc2 hk1).1 _ 0 (by simp) n0).trans (by simp);have p1:w1.cell? ⟨w.heap.size,1,none⟩=some (.int .i64 st.place):=((qc2 hk1).1 _ 1 (by simp) n0).trans (by simp);have hK1:=j4 (((Kept.refl rb w).alloc _).trans hk1);clear hk1)
  go_region_held3 (fun w'=>w'.cell? ⟨w.heap.size,0,none⟩=some (.int .i64 st.tk.kind)∧w'.cell? ⟨w.heap.size,1,none⟩=some (.int .i64 st.place)) (go_keep) (first|(go_at_call 197;refine (qf9 _ _).mono ?_;rintro e w' ⟨rfl,rfl⟩)|(go_at_call 102;refine (q9 HF _ (j3 s st) ((q9 H).stepped (q9 hK1) (q9 hr1)) hop).mono ?_;rintro e w2 ⟨hk2,h2⟩;rw [q9 HRES] at h2;obtain ⟨v2,rfl,hn2,hr2,ha2,ho2,hp2⟩:=h2;obtain ⟨vb,rfl⟩:=hn2.ptr;have p0':w2.cell? ⟨w.heap.size,0,none⟩=some (.int .i64 st.tk.kind):=((qc2 hk2).1 _ 0 hz1 n0).trans p0;have p1':w2.cell? ⟨w.heap.size,1,none⟩=some (.int .i64 st.place):=((qc2 hk2).1 _ 1 hz1 n0).trans p1;have hz2:w.heap.size<w2.heap.size:=Nat.lt_of_lt_of_le hz1 hk2.size;have hk2:=j4 hk2;have hn2:=j4 hn2;have hr2:=j4 hr2))
  all_goals (go_wp2_with fail)
  all_goals go_ret
  refine ⟨?_,_,rfl, ?_, ?_,ha2,ho2,Nat.le_trans (qf8 s st) hp2⟩
  ·exact ((((q9 hK1).trans ((Kept.refl rb w1).drew.trans (q9 hk2))).alloc _).alloc _)
  ·have:=IsNode.two (op:=qw9 st.tk.kind) (place:=st.place) ((q9 HL).kept ((q9 hK1).trans ((Kept.refl rb w1).drew.trans (q9 hk2)))) (q9 hn2) (by omega)
   exact this
  ·exact (((q9 hr2).allocd _ (by omega)).allocd _ (by simp;omega))
 | err en pl=>
  rw [qf2 hres]
  have HRES:=j4 hres
  clear hres
  go_enter Tryz.func146,Tryz.ntmps146
  go_wp2_with (go_at_call 54;refine (qd6 rb s st _ (q9 H).size (q9 H).fine.after ((q9 H).at'.allocd _ hlt) (by simp;omega) ((q9 H).err.alloc _)).mono ?_;rintro e w1 ⟨rfl,hr1,hk1⟩;have hr1:=j4 hr1;have hz1:w.heap.size<w1.heap.size:=(by have:=hk1.size;simp at this;omega);have p0:w1.cell? ⟨w.heap.size,0,none⟩=some (.int .i64 st.tk.kind):=((qc2 hk1).1 _ 0 (by simp) n0).trans (by simp);have p1:w1.cell? ⟨w.heap.size,1,none⟩=some (.int .i64 st.place):=((qc2 hk1).1 _ 1 (by simp) n0).trans (by simp);have hK1:=j4 (((Kept.refl rb w).alloc _).trans hk1);clear hk1)
  go_region_with (first|(go_at_call 197;refine (qf9 _ _).mono ?_;rintro e w' ⟨rfl,rfl⟩)|(go_at_call 102;refine (q9 HF _ (j3 s st) ((q9 H).stepped (q9 hK1) (q9 hr1)) hop).mono ?_;rintro e w2 ⟨hk2,h2⟩;rw [q9 HRES] at h2;subst h2;refine gone (w:=w2) ⟨rfl,(q9 hK1).trans ((Kept.refl rb w1).drew.trans hk2),rfl⟩ ?_))
  all_goals trivial
theorem qy5 (rb:Nat) (s:ByteArray) (op:Nat) (f:St→Res) (hf:qg4 147 rb s op f) (st:St) (l:Ast) (lv:Value) (w:World) (h:Ready rb s w st) (hop:st.op=op) (hl:IsNode rb w lv l) :
  Calls Tryz.prog 146 #[.pointer (some ⟨rb,0,none⟩),lv,.func (.func 147) #[.pointer (some ⟨rb,0,none⟩)] #[]] w (Gives rb s w op st.after (qc9 s f st l)):=by
 have hr:=h.at'
 have hlt:=h.lt
 have H:=j4 h
 obtain ⟨c0,c1,c2,c3,c4,c5,c6,fz⟩:=hr
 have HF:=j4 hf
 obtain ⟨lb,rfl⟩:=hl.ptr
 have HL:=j4 hl
 have n0:¬w.heap.size=rb:=by omega
 clear hf h hl
 cases hres:f (j3 s st) with
 | ok r st'=>
  rw [qg6 hres]
  have HRES:=j4 hres
  clear hres
  go_enter Tryz.func146,Tryz.ntmps146
  go_wp2_with (go_at_call 54;refine (qd6 rb s st _ (q9 H).size (q9 H).fine.after ((q9 H).at'.allocd _ hlt) (by simp;omega) ((q9 H).err.alloc _)).mono ?_;rintro e w1 ⟨rfl,hr1,hk1⟩;have hr1:=j4 hr1;have hz1:w.heap.size<w1.heap.size:=(by have:=hk1.size;simp at this;omega);have p0:w1.cell? ⟨w.heap.size,0,none⟩=some (.int .i64 st.tk.kind):=((qc2 hk1).1 _ 0 (by simp) n0).trans (by simp);have p1:w1.cell? ⟨w.heap.size,1,none⟩=some (.int .i64 st.place):=((qc2 hk1).1 _ 1 (by simp) n0).trans (by simp);have hK1:=j4 (((Kept.refl rb w).alloc _).trans hk1);clear hk1)
  go_region_held3 (fun w'=>w'.cell? ⟨w.heap.size,0,none⟩=some (.int .i64 st.tk.kind)∧w'.cell? ⟨w.heap.size,1,none⟩=some (.int .i64 st.place)) (go_keep) (first|(go_at_call 197;refine (qf9 _ _).mono ?_;rintro e w' ⟨rfl,rfl⟩)|(go_at_call 147;refine (q9 HF _ (j3 s st) ((q9 H).stepped (q9 hK1) (q9 hr1)) hop).mono ?_;rintro e w2 ⟨hk2,h2⟩;rw [q9 HRES] at h2;obtain ⟨v2,rfl,hn2,hr2,ha2,ho2,hp2⟩:=h2;obtain ⟨vb,rfl⟩:=hn2.ptr;have p0':w2.cell? ⟨w.heap.size,0,none⟩=some (.int .i64 st.tk.kind):=((qc2 hk2).1 _ 0 hz1 n0).trans p0;have p1':w2.cell? ⟨w.heap.size,1,none⟩=some (.int .i64 st.place):=((qc2 hk2).1 _ 1 hz1 n0).trans p1;have hz2:w.heap.size<w2.heap.size:=Nat.lt_of_lt_of_le hz1 hk2.size;have hk2:=j4 hk2;have hn2:=j4 hn2;have hr2:=j4 hr2))
  all_goals (go_wp2_with fail)
  all_goals go_ret
  refine ⟨?_,_,rfl, ?_, ?_,ha2,ho2,Nat.le_trans (qf8 s st) hp2⟩
  ·exact ((((q9 hK1).trans ((Kept.refl rb w1).drew.trans (q9 hk2))).alloc _).alloc _)
  ·have:=IsNode.two (op:=qw9 st.tk.kind) (place:=st.place) ((q9 HL).kept ((q9 hK1).trans ((Kept.refl rb w1).drew.trans (q9 hk2)))) (q9 hn2) (by omega)
   exact this
  ·exact (((q9 hr2).allocd _ (by omega)).allocd _ (by simp;omega))
 | err en pl=>
  rw [qf2 hres]
  have HRES:=j4 hres
  clear hres
  go_enter Tryz.func146,Tryz.ntmps146
  go_wp2_with (go_at_call 54;refine (qd6 rb s st _ (q9 H).size (q9 H).fine.after ((q9 H).at'.allocd _ hlt) (by simp;omega) ((q9 H).err.alloc _)).mono ?_;rintro e w1 ⟨rfl,hr1,hk1⟩;have hr1:=j4 hr1;have hz1:w.heap.size<w1.heap.size:=(by have:=hk1.size;simp at this;omega);have p0:w1.cell? ⟨w.heap.size,0,none⟩=some (.int .i64 st.tk.kind):=((qc2 hk1).1 _ 0 (by simp) n0).trans (by simp);have p1:w1.cell? ⟨w.heap.size,1,none⟩=some (.int .i64 st.place):=((qc2 hk1).1 _ 1 (by simp) n0).trans (by simp);have hK1:=j4 (((Kept.refl rb w).alloc _).trans hk1);clear hk1)
  go_region_with (first|(go_at_call 197;refine (qf9 _ _).mono ?_;rintro e w' ⟨rfl,rfl⟩)|(go_at_call 147;refine (q9 HF _ (j3 s st) ((q9 H).stepped (q9 hK1) (q9 hr1)) hop).mono ?_;rintro e w2 ⟨hk2,h2⟩;rw [q9 HRES] at h2;subst h2;refine gone (w:=w2) ⟨rfl,(q9 hK1).trans ((Kept.refl rb w1).drew.trans hk2),rfl⟩ ?_))
  all_goals trivial
theorem qw5 (rb:Nat) (s:ByteArray) (op:Nat) (f:St→Res) (hf:qg4 266 rb s op f) (st:St) (l:Ast) (lv:Value) (w:World) (h:Ready rb s w st) (hop:st.op=op) (hl:IsNode rb w lv l) :
  Calls Tryz.prog 146 #[.pointer (some ⟨rb,0,none⟩),lv,.func (.func 266) #[.pointer (some ⟨rb,0,none⟩)] #[]] w (Gives rb s w op st.after (qc9 s f st l)):=by
 have hr:=h.at'
 have hlt:=h.lt
 have H:=j4 h
 obtain ⟨c0,c1,c2,c3,c4,c5,c6,fz⟩:=hr
 have HF:=j4 hf
 obtain ⟨lb,rfl⟩:=hl.ptr
 have HL:=j4 hl
 have n0:¬w.heap.size=rb:=by omega
 clear hf h hl
 cases hres:f (j3 s st) with
 | ok r st'=>
  rw [qg6 hres]
  have HRES:=j4 hres
  clear hres
  go_enter Tryz.func146,Tryz.ntmps146
  go_wp2_with (go_at_call 54;refine (qd6 rb s st _ (q9 H).size (q9 H).fine.after ((q9 H).at'.allocd _ hlt) (by simp;omega) ((q9 H).err.alloc _)).mono ?_;rintro e w1 ⟨rfl,hr1,hk1⟩;have hr1:=j4 hr1;have hz1:w.heap.size<w1.heap.size:=(by have:=hk1.size;simp at this;omega);have p0:w1.cell? ⟨w.heap.size,0,none⟩=some (.int .i64 st.tk.kind):=((qc2 hk1).1 _ 0 (by simp) n0).trans (by simp);have p1:w1.cell? ⟨w.heap.size,1,none⟩=some (.int .i64 st.place):=((qc2 hk1).1 _ 1 (by simp) n0).trans (by simp);have hK1:=j4 (((Kept.refl rb w).alloc _).trans hk1);clear hk1)
  go_region_held3 (fun w'=>w'.cell? ⟨w.heap.size,0,none⟩=some (.int .i64 st.tk.kind)∧w'.cell? ⟨w.heap.size,1,none⟩=some (.int .i64 st.place)) (go_keep) (first|(go_at_call 197;refine (qf9 _ _).mono ?_;rintro e w' ⟨rfl,rfl⟩)|(go_at_call 266;refine (q9 HF _ (j3 s st) ((q9 H).stepped (q9 hK1) (q9 hr1)) hop).mono ?_;rintro e w2 ⟨hk2,h2⟩;rw [q9 HRES] at h2;obtain ⟨v2,rfl,hn2,hr2,ha2,ho2,hp2⟩:=h2;obtain ⟨vb,rfl⟩:=hn2.ptr;have p0':w2.cell? ⟨w.heap.size,0,none⟩=some (.int .i64 st.tk.kind):=((qc2 hk2).1 _ 0 hz1 n0).trans p0;have p1':w2.cell? ⟨w.heap.size,1,none⟩=some (.int .i64 st.place):=((qc2 hk2).1 _ 1 hz1 n0).trans p1;have hz2:w.heap.size<w2.heap.size:=Nat.lt_of_lt_of_le hz1 hk2.size;have hk2:=j4 hk2;have hn2:=j4 hn2;have hr2:=j4 hr2))
  all_goals (go_wp2_with fail)
  all_goals go_ret
  refine ⟨?_,_,rfl, ?_, ?_,ha2,ho2,Nat.le_trans (qf8 s st) hp2⟩
  ·exact ((((q9 hK1).trans ((Kept.refl rb w1).drew.trans (q9 hk2))).alloc _).alloc _)
  ·have:=IsNode.two (op:=qw9 st.tk.kind) (place:=st.place) ((q9 HL).kept ((q9 hK1).trans ((Kept.refl rb w1).drew.trans (q9 hk2)))) (q9 hn2) (by omega)
   exact this
  ·exact (((q9 hr2).allocd _ (by omega)).allocd _ (by simp;omega))
 | err en pl=>
  rw [qf2 hres]
  have HRES:=j4 hres
  clear hres
  go_enter Tryz.func146,Tryz.ntmps146
  go_wp2_with (go_at_call 54;refine (qd6 rb s st _ (q9 H).size (q9 H).fine.after ((q9 H).at'.allocd _ hlt) (by simp;omega) ((q9 H).err.alloc _)).mono ?_;rintro e w1 ⟨rfl,hr1,hk1⟩;have hr1:=j4 hr1;have hz1:w.heap.size<w1.heap.size:=(by have:=hk1.size;simp at this;omega);have p0:w1.cell? ⟨w.heap.size,0,none⟩=some (.int .i64 st.tk.kind):=((qc2 hk1).1 _ 0 (by simp) n0).trans (by simp);have p1:w1.cell? ⟨w.heap.size,1,none⟩=some (.int .i64 st.place):=((qc2 hk1).1 _ 1 (by simp) n0).trans (by simp);have hK1:=j4 (((Kept.refl rb w).alloc _).trans hk1);clear hk1)
  go_region_with (first|(go_at_call 197;refine (qf9 _ _).mono ?_;rintro e w' ⟨rfl,rfl⟩)|(go_at_call 266;refine (q9 HF _ (j3 s st) ((q9 H).stepped (q9 hK1) (q9 hr1)) hop).mono ?_;rintro e w2 ⟨hk2,h2⟩;rw [q9 HRES] at h2;subst h2;refine gone (w:=w2) ⟨rfl,(q9 hK1).trans ((Kept.refl rb w1).drew.trans hk2),rfl⟩ ?_))
  all_goals trivial
theorem qy6 (rb:Nat) (s:ByteArray) (op:Nat) (f:St→Res) (hf:qg4 301 rb s op f) (st:St) (l:Ast) (lv:Value) (w:World) (h:Ready rb s w st) (hop:st.op=op) (hl:IsNode rb w lv l) :
  Calls Tryz.prog 146 #[.pointer (some ⟨rb,0,none⟩),lv,.func (.func 301) #[.pointer (some ⟨rb,0,none⟩)] #[]] w (Gives rb s w op st.after (qc9 s f st l)):=by
 have hr:=h.at'
 have hlt:=h.lt
 have H:=j4 h
 obtain ⟨c0,c1,c2,c3,c4,c5,c6,fz⟩:=hr
 have HF:=j4 hf
 obtain ⟨lb,rfl⟩:=hl.ptr
 have HL:=j4 hl
 have n0:¬w.heap.size=rb:=by omega
 clear hf h hl
 cases hres:f (j3 s st) with
 | ok r st'=>
  rw [qg6 hres]
  have HRES:=j4 hres
  clear hres
  go_enter Tryz.func146,Tryz.ntmps146
  go_wp2_with (go_at_call 54;refine (qd6 rb s st _ (q9 H).size (q9 H).fine.after ((q9 H).at'.allocd _ hlt) (by simp;omega) ((q9 H).err.alloc _)).mono ?_;rintro e w1 ⟨rfl,hr1,hk1⟩;have hr1:=j4 hr1;have hz1:w.heap.size<w1.heap.size:=(by have:=hk1.size;simp at this;omega);have p0:w1.cell? ⟨w.heap.size,0,none⟩=some (.int .i64 st.tk.kind):=((qc2 hk1).1 _ 0 (by simp) n0).trans (by simp);have p1:w1.cell? ⟨w.heap.size,1,none⟩=some (.int .i64 st.place):=((qc2 hk1).1 _ 1 (by simp) n0).trans (by simp);have hK1:=j4 (((Kept.refl rb w).alloc _).trans hk1);clear hk1)
  go_region_held3 (fun w'=>w'.cell? ⟨w.heap.size,0,none⟩=some (.int .i64 st.tk.kind)∧w'.cell? ⟨w.heap.size,1,none⟩=some (.int .i64 st.place)) (go_keep) (first|(go_at_call 197;refine (qf9 _ _).mono ?_;rintro e w' ⟨rfl,rfl⟩)|(go_at_call 301;refine (q9 HF _ (j3 s st) ((q9 H).stepped (q9 hK1) (q9 hr1)) hop).mono ?_;rintro e w2 ⟨hk2,h2⟩;rw [q9 HRES] at h2;obtain ⟨v2,rfl,hn2,hr2,ha2,ho2,hp2⟩:=h2;obtain ⟨vb,rfl⟩:=hn2.ptr;have p0':w2.cell? ⟨w.heap.size,0,none⟩=some (.int .i64 st.tk.kind):=((qc2 hk2).1 _ 0 hz1 n0).trans p0;have p1':w2.cell? ⟨w.heap.size,1,none⟩=some (.int .i64 st.place):=((qc2 hk2).1 _ 1 hz1 n0).trans p1;have hz2:w.heap.size<w2.heap.size:=Nat.lt_of_lt_of_le hz1 hk2.size;have hk2:=j4 hk2;have hn2:=j4 hn2;have hr2:=j4 hr2))
  all_goals (go_wp2_with fail)
  all_goals go_ret
  refine ⟨?_,_,rfl, ?_, ?_,ha2,ho2,Nat.le_trans (qf8 s st) hp2⟩
  ·exact ((((q9 hK1).trans ((Kept.refl rb w1).drew.trans (q9 hk2))).alloc _).alloc _)
  ·have:=IsNode.two (op:=qw9 st.tk.kind) (place:=st.place) ((q9 HL).kept ((q9 hK1).trans ((Kept.refl rb w1).drew.trans (q9 hk2)))) (q9 hn2) (by omega)
   exact this
  ·exact (((q9 hr2).allocd _ (by omega)).allocd _ (by simp;omega))
 | err en pl=>
  rw [qf2 hres]
  have HRES:=j4 hres
  clear hres
  go_enter Tryz.func146,Tryz.ntmps146
  go_wp2_with (go_at_call 54;refine (qd6 rb s st _ (q9 H).size (q9 H).fine.after ((q9 H).at'.allocd _ hlt) (by simp;omega) ((q9 H).err.alloc _)).mono ?_;rintro e w1 ⟨rfl,hr1,hk1⟩;have hr1:=j4 hr1;have hz1:w.heap.size<w1.heap.size:=(by have:=hk1.size;simp at this;omega);have p0:w1.cell? ⟨w.heap.size,0,none⟩=some (.int .i64 st.tk.kind):=((qc2 hk1).1 _ 0 (by simp) n0).trans (by simp);have p1:w1.cell? ⟨w.heap.size,1,none⟩=some (.int .i64 st.place):=((qc2 hk1).1 _ 1 (by simp) n0).trans (by simp);have hK1:=j4 (((Kept.refl rb w).alloc _).trans hk1);clear hk1)
  go_region_with (first|(go_at_call 197;refine (qf9 _ _).mono ?_;rintro e w' ⟨rfl,rfl⟩)|(go_at_call 301;refine (q9 HF _ (j3 s st) ((q9 H).stepped (q9 hK1) (q9 hr1)) hop).mono ?_;rintro e w2 ⟨hk2,h2⟩;rw [q9 HRES] at h2;subst h2;refine gone (w:=w2) ⟨rfl,(q9 hK1).trans ((Kept.refl rb w1).drew.trans hk2),rfl⟩ ?_))
  all_goals trivial
theorem qq1 (rb:Nat) (s:ByteArray) (op:Nat) (f:St→Res) (hf:qg4 241 rb s op f) (st:St) (l:Ast) (lv:Value) (w:World) (h:Ready rb s w st) (hop:st.op=op) (hl:IsNode rb w lv l) :
  Calls Tryz.prog 146 #[.pointer (some ⟨rb,0,none⟩),lv,.func (.func 241) #[.pointer (some ⟨rb,0,none⟩)] #[]] w (Gives rb s w op st.after (qc9 s f st l)):=by
 have hr:=h.at'
 have hlt:=h.lt
 have H:=j4 h
 obtain ⟨c0,c1,c2,c3,c4,c5,c6,fz⟩:=hr
 have HF:=j4 hf
 obtain ⟨lb,rfl⟩:=hl.ptr
 have HL:=j4 hl
 have n0:¬w.heap.size=rb:=by omega
 clear hf h hl
 cases hres:f (j3 s st) with
 | ok r st'=>
  rw [qg6 hres]
  have HRES:=j4 hres
  clear hres
  go_enter Tryz.func146,Tryz.ntmps146
  go_wp2_with (go_at_call 54;refine (qd6 rb s st _ (q9 H).size (q9 H).fine.after ((q9 H).at'.allocd _ hlt) (by simp;omega) ((q9 H).err.alloc _)).mono ?_;rintro e w1 ⟨rfl,hr1,hk1⟩;have hr1:=j4 hr1;have hz1:w.heap.size<w1.heap.size:=(by have:=hk1.size;simp at this;omega);have p0:w1.cell? ⟨w.heap.size,0,none⟩=some (.int .i64 st.tk.kind):=((qc2 hk1).1 _ 0 (by simp) n0).trans (by simp);have p1:w1.cell? ⟨w.heap.size,1,none⟩=some (.int .i64 st.place):=((qc2 hk1).1 _ 1 (by simp) n0).trans (by simp);have hK1:=j4 (((Kept.refl rb w).alloc _).trans hk1);clear hk1)
  go_region_held3 (fun w'=>w'.cell? ⟨w.heap.size,0,none⟩=some (.int .i64 st.tk.kind)∧w'.cell? ⟨w.heap.size,1,none⟩=some (.int .i64 st.place)) (go_keep) (first|(go_at_call 197;refine (qf9 _ _).mono ?_;rintro e w' ⟨rfl,rfl⟩)|(go_at_call 241;refine (q9 HF _ (j3 s st) ((q9 H).stepped (q9 hK1) (q9 hr1)) hop).mono ?_;rintro e w2 ⟨hk2,h2⟩;rw [q9 HRES] at h2;obtain ⟨v2,rfl,hn2,hr2,ha2,ho2,hp2⟩:=h2;obtain ⟨vb,rfl⟩:=hn2.ptr;have p0':w2.cell? ⟨w.heap.size,0,none⟩=some (.int .i64 st.tk.kind):=((qc2 hk2).1 _ 0 hz1 n0).trans p0;have p1':w2.cell? ⟨w.heap.size,1,none⟩=some (.int .i64 st.place):=((qc2 hk2).1 _ 1 hz1 n0).trans p1;have hz2:w.heap.size<w2.heap.size:=Nat.lt_of_lt_of_le hz1 hk2.size;have hk2:=j4 hk2;have hn2:=j4 hn2;have hr2:=j4 hr2))
  all_goals (go_wp2_with fail)
  all_goals go_ret
  refine ⟨?_,_,rfl, ?_, ?_,ha2,ho2,Nat.le_trans (qf8 s st) hp2⟩
  ·exact ((((q9 hK1).trans ((Kept.refl rb w1).drew.trans (q9 hk2))).alloc _).alloc _)
  ·have:=IsNode.two (op:=qw9 st.tk.kind) (place:=st.place) ((q9 HL).kept ((q9 hK1).trans ((Kept.refl rb w1).drew.trans (q9 hk2)))) (q9 hn2) (by omega)
   exact this
  ·exact (((q9 hr2).allocd _ (by omega)).allocd _ (by simp;omega))
 | err en pl=>
  rw [qf2 hres]
  have HRES:=j4 hres
  clear hres
  go_enter Tryz.func146,Tryz.ntmps146
  go_wp2_with (go_at_call 54;refine (qd6 rb s st _ (q9 H).size (q9 H).fine.after ((q9 H).at'.allocd _ hlt) (by simp;omega) ((q9 H).err.alloc _)).mono ?_;rintro e w1 ⟨rfl,hr1,hk1⟩;have hr1:=j4 hr1;have hz1:w.heap.size<w1.heap.size:=(by have:=hk1.size;simp at this;omega);have p0:w1.cell? ⟨w.heap.size,0,none⟩=some (.int .i64 st.tk.kind):=((qc2 hk1).1 _ 0 (by simp) n0).trans (by simp);have p1:w1.cell? ⟨w.heap.size,1,none⟩=some (.int .i64 st.place):=((qc2 hk1).1 _ 1 (by simp) n0).trans (by simp);have hK1:=j4 (((Kept.refl rb w).alloc _).trans hk1);clear hk1)
  go_region_with (first|(go_at_call 197;refine (qf9 _ _).mono ?_;rintro e w' ⟨rfl,rfl⟩)|(go_at_call 241;refine (q9 HF _ (j3 s st) ((q9 H).stepped (q9 hK1) (q9 hr1)) hop).mono ?_;rintro e w2 ⟨hk2,h2⟩;rw [q9 HRES] at h2;subst h2;refine gone (w:=w2) ⟨rfl,(q9 hK1).trans ((Kept.refl rb w1).drew.trans hk2),rfl⟩ ?_))
  all_goals trivial
end
section
def qb7 (s:ByteArray) (f:St→Res) (ks:List Int):Nat→Ast→St→Res
 | 0,l,st=>.ok l st
 | n+1,l,st=>if ks.contains st.tk.kind then (match qc9 s f st l with
   | .ok l' st'=>qb7 s f ks n l' st'
   | .err en pl=>.err en pl) else .ok l st
def qe4 (s:ByteArray) (f:St→Res) (ks:List Int) (st:St):Res:=match f st with
 | .ok l st'=>qb7 s f ks (s.size+1) l st'
 | .err en pl=>.err en pl
theorem qi2 {s:ByteArray} {f:St→Res} {ks:List Int} {n:Nat} {l:Ast} {st:St} (h:ks.contains st.tk.kind=false):qb7 s f ks (n+1) l st=.ok l st:=by
 rw [qb7,if_neg (by rw [h];simp)]
theorem qf7 {s:ByteArray} {f:St→Res} {ks:List Int} {n:Nat} {l l':Ast} {st st':St} (h:ks.contains st.tk.kind=true) (hj:qc9 s f st l=.ok l' st'):qb7 s f ks (n+1) l st=qb7 s f ks n l' st':=by
 rw [qb7,if_pos h,hj]
theorem qh3 {s:ByteArray} {f:St→Res} {ks:List Int} {n:Nat} {l:Ast} {st:St} {en pl:Int} (h:ks.contains st.tk.kind=true) (hj:qc9 s f st l=.err en pl):qb7 s f ks (n+1) l st=.err en pl:=by
 rw [qb7,if_pos h,hj]
theorem qp2 {s:ByteArray} {f:St→Res} {ks:List Int} {st st':St} {l:Ast} (h:f st=.ok l st'):qe4 s f ks st=qb7 s f ks (s.size+1) l st':=by unfold qe4;rw [h]
theorem qm0 {s:ByteArray} {f:St→Res} {ks:List Int} {st:St} {en pl:Int} (h:f st=.err en pl):qe4 s f ks st=.err en pl:=by unfold qe4;rw [h]
def plOf (w:World) (rb:Nat):Nat:=match w.cell? ⟨rb,2,none⟩ with
 | some (.int _ n)=>n.toNat
 | _=>0
theorem qr5 {w:World} {rb:Nat} {s:ByteArray} {st:St} (h:RdAt w rb s st):plOf w rb=st.place:=by
 unfold plOf;rw [h.c2];simp
theorem KsAt.kept {rb b:Nat} {w w':World} {ks:List Int} (h:KsAt w b ks) (hk:Kept rb w w') (hb:b<w.heap.size) (hn:¬b=rb):KsAt w' b ks:=
 fun j k hj=>((qc2 hk).1 b j hb hn).trans (h j k hj)
theorem row_both (rb ob cap:Nat) (s:ByteArray) (op:Nat) (f:St→Res) (hf:qg4 102 rb s op f) (ks:List Int) (hks:ks.length≤8) (h0:ks.contains 0=false) (st:St) (w:World) (h:Ready rb s w st) (hop:st.op=op) (ho:KsAt w ob ks) (hob:ob<w.heap.size) (hne:¬ob=rb) :
  Calls Tryz.prog 101 #[.pointer (some ⟨rb,0,none⟩),.func (.func 102) #[.pointer (some ⟨rb,0,none⟩)] #[],.slice (some ⟨ob,0,none⟩) ks.length cap] w (Gives rb s w op st.place (qe4 s f ks st)):=by
 have H:=j4 h
 have HF:=j4 hf
 have HO:=j4 ho
 have hlt:=h.lt
 clear h hf ho
 cases hres:f st with
 | err en pl=>
  rw [qm0 hres]
  have HRES:=j4 hres
  clear hres
  go_enter Tryz.func101,Tryz.ntmps101
  go_wp2_with (go_at_call 102;refine (q9 HF _ st (q9 H) hop).mono ?_;rintro e w1 ⟨hk1,h1⟩;rw [q9 HRES] at h1;subst h1;simp only [qb4])
  exact ⟨rfl,hk1,rfl⟩
 | ok l0 st0=>
  rw [qp2 hres]
  have HRES:=j4 hres
  clear hres
  obtain ⟨R,hR⟩:∃r,qb7 s f ks (s.size+1) l0 st0=r:=⟨_,rfl⟩
  rw [hR]
  have HR:=j4 hR
  clear hR
  go_enter Tryz.func101,Tryz.ntmps101
  go_wp2_with (go_at_call 102;refine (q9 HF _ st (q9 H) hop).mono ?_;rintro e w1 ⟨hk1,h1⟩;rw [q9 HRES] at h1;obtain ⟨v1,rfl,hn1,hr1,hf1,ho1,hp1⟩:=h1;have hn1:=j4 hn1;have hr1:=j4 hr1;have hk1:=j4 hk1;have hf1:=j4 hf1)
  go_loopw [7] (fun v wr=>∃(n:Nat) (l:Ast) (sl:St),Hid (R=qb7 s f ks n l sl)∧s.size<n+sl.place∧IsNode rb wr v l∧Hid (Ready rb s wr sl)∧sl.op=op∧st.place≤sl.place∧Kept rb w wr) (fun v wr=>s.size+1 - plOf wr rb)
  case atStart=>exact ⟨s.size+1,l0,st0,j4 (q9 HR).symm,by omega,q9 hn1,j4 ((q9 H).kept (q9 hk1) (q9 hr1) (q9 hf1)),ho1,hp1,q9 hk1⟩
  case round=>
   obtain ⟨n,l,sl,hR,hn,hnode,hready,hopl,hpl,hk⟩:=hrel
   have hfine:=(q9 hready).fine
   have hf1':=hfine.place
   obtain ⟨lb,rfl⟩:=hnode.ptr
   obtain ⟨m,rfl⟩:∃m,n=m+1:=⟨n - 1,by omega⟩
   have HKS:=j4 ((q9 HO).kept hk hob hne)
   have HND:=j4 hnode
   have HK:=j4 hk
   have hltr:=(q9 hready).lt
   have HPL:=j4 (qr5 (q9 hready).at')
   obtain ⟨c0,c1,c2,c3,c4,c5,c6,fz⟩:=(q9 hready).at'
   clear hnode hk
   have CON:=fun w=>qp6 ob cap ks sl.tk.kind w hks
   cases hc:ks.contains sl.tk.kind with
   | false=>
    have HRR:Hid (R=.ok l sl):=j4 (by rw [q9 hR,qi2 hc])
    rw [hc] at CON
    have HCON:=j4 CON
    clear hc CON hR c0 c2 c3 c4 c5 c6 fz
    go_wp2_with (go_at_call 145;refine (q9 HCON _ (q9 HKS)).mono ?_;rintro e w' ⟨rfl,rfl⟩)
    go_ret
    rw [q9 HRR]
    exact ⟨q9 HK,_,rfl,q9 HND,(q9 hready).at',hfine,hopl,hpl⟩
   | true=>
    rw [hc] at CON
    have HCON:=j4 CON
    have hk0:sl.tk.kind≠0:=fun h=>by rw [h,h0] at hc;cases hc
    have hlong:=hfine.long hk0
    cases hj:qc9 s f sl l with
    | err en pl=>
     have HRR:Hid (R=.err en pl):=j4 (by rw [q9 hR,qh3 hc hj])
     have HJ:=j4 hj
     clear hc CON hR hj c0 c2 c3 c4 c5 c6 fz hk0
     go_wp2_with (first|(go_at_call 145;refine (q9 HCON _ (q9 HKS)).mono ?_;rintro e w' ⟨rfl,rfl⟩)|(go_at_call 146;refine (vf7 rb s op f (q9 HF) sl l _ _ (q9 hready) hopl (q9 HND)).mono ?_;rintro e w2 ⟨hk2,h2⟩;rw [q9 HJ] at h2;subst h2;simp only [qb4]))
     rw [q9 HRR]
     exact ⟨rfl,(q9 HK).trans hk2,rfl⟩
    | ok l2 st2=>
     have HRR:Hid (R=qb7 s f ks m l2 st2):=j4 (by rw [q9 hR,qf7 hc hj])
     have HJ:=j4 hj
     clear hc CON hR hj c0 c2 c3 c4 c5 c6 fz hk0
     go_wp2_with (first|(go_at_call 145;refine (q9 HCON _ (q9 HKS)).mono ?_;rintro e w' ⟨rfl,rfl⟩)|(go_at_call 146;refine (vf7 rb s op f (q9 HF) sl l _ _ (q9 hready) hopl (q9 HND)).mono ?_;rintro e w2 ⟨hk2,h2⟩;rw [q9 HJ] at h2;obtain ⟨v2,rfl,hn2,hr2,hf2,ho2,hp2⟩:=h2;have HPL2:=j4 (qr5 hr2);have hr2:=j4 hr2;have hn2:=j4 hn2;have hk2:=j4 hk2;have hf2:=j4 hf2))
     have hb2:=(q9 hf2).place
     go_roundw
     case rel=>exact ⟨m,l2,st2,HRR,by omega,q9 hn2,j4 ((q9 hready).kept (q9 hk2) (q9 hr2) (q9 hf2)),ho2,by omega,(q9 HK).trans (q9 hk2)⟩
     case measure=>rw [q9 HPL,q9 HPL2];omega
theorem jk2 (rb ob cap:Nat) (s:ByteArray) (op:Nat) (f:St→Res) (hf:qg4 147 rb s op f) (ks:List Int) (hks:ks.length≤8) (h0:ks.contains 0=false) (st:St) (w:World) (h:Ready rb s w st) (hop:st.op=op) (ho:KsAt w ob ks) (hob:ob<w.heap.size) (hne:¬ob=rb) :
  Calls Tryz.prog 101 #[.pointer (some ⟨rb,0,none⟩),.func (.func 147) #[.pointer (some ⟨rb,0,none⟩)] #[],.slice (some ⟨ob,0,none⟩) ks.length cap] w (Gives rb s w op st.place (qe4 s f ks st)):=by
 have H:=j4 h
 have HF:=j4 hf
 have HO:=j4 ho
 have hlt:=h.lt
 clear h hf ho
 cases hres:f st with
 | err en pl=>
  rw [qm0 hres]
  have HRES:=j4 hres
  clear hres
  go_enter Tryz.func101,Tryz.ntmps101
  go_wp2_with (go_at_call 147;refine (q9 HF _ st (q9 H) hop).mono ?_;rintro e w1 ⟨hk1,h1⟩;rw [q9 HRES] at h1;subst h1;simp only [qb4])
  exact ⟨rfl,hk1,rfl⟩
 | ok l0 st0=>
  rw [qp2 hres]
  have HRES:=j4 hres
  clear hres
  obtain ⟨R,hR⟩:∃r,qb7 s f ks (s.size+1) l0 st0=r:=⟨_,rfl⟩
  rw [hR]
  have HR:=j4 hR
  clear hR
  go_enter Tryz.func101,Tryz.ntmps101
  go_wp2_with (go_at_call 147;refine (q9 HF _ st (q9 H) hop).mono ?_;rintro e w1 ⟨hk1,h1⟩;rw [q9 HRES] at h1;obtain ⟨v1,rfl,hn1,hr1,hf1,ho1,hp1⟩:=h1;have hn1:=j4 hn1;have hr1:=j4 hr1;have hk1:=j4 hk1;have hf1:=j4 hf1)
  go_loopw [7] (fun v wr=>∃(n:Nat) (l:Ast) (sl:St),Hid (R=qb7 s f ks n l sl)∧s.size<n+sl.place∧IsNode rb wr v l∧Hid (Ready rb s wr sl)∧sl.op=op∧st.place≤sl.place∧Kept rb w wr) (fun v wr=>s.size+1 - plOf wr rb)
  case atStart=>exact ⟨s.size+1,l0,st0,j4 (q9 HR).symm,by omega,q9 hn1,j4 ((q9 H).kept (q9 hk1) (q9 hr1) (q9 hf1)),ho1,hp1,q9 hk1⟩
  case round=>
   obtain ⟨n,l,sl,hR,hn,hnode,hready,hopl,hpl,hk⟩:=hrel
   have hfine:=(q9 hready).fine
   have hf1':=hfine.place
   obtain ⟨lb,rfl⟩:=hnode.ptr
   obtain ⟨m,rfl⟩:∃m,n=m+1:=⟨n - 1,by omega⟩
   have HKS:=j4 ((q9 HO).kept hk hob hne)
   have HND:=j4 hnode
   have HK:=j4 hk
   have hltr:=(q9 hready).lt
   have HPL:=j4 (qr5 (q9 hready).at')
   obtain ⟨c0,c1,c2,c3,c4,c5,c6,fz⟩:=(q9 hready).at'
   clear hnode hk
   have CON:=fun w=>qp6 ob cap ks sl.tk.kind w hks
   cases hc:ks.contains sl.tk.kind with
   | false=>
    have HRR:Hid (R=.ok l sl):=j4 (by rw [q9 hR,qi2 hc])
    rw [hc] at CON
    have HCON:=j4 CON
    clear hc CON hR c0 c2 c3 c4 c5 c6 fz
    go_wp2_with (go_at_call 145;refine (q9 HCON _ (q9 HKS)).mono ?_;rintro e w' ⟨rfl,rfl⟩)
    go_ret
    rw [q9 HRR]
    exact ⟨q9 HK,_,rfl,q9 HND,(q9 hready).at',hfine,hopl,hpl⟩
   | true=>
    rw [hc] at CON
    have HCON:=j4 CON
    have hk0:sl.tk.kind≠0:=fun h=>by rw [h,h0] at hc;cases hc
    have hlong:=hfine.long hk0
    cases hj:qc9 s f sl l with
    | err en pl=>
     have HRR:Hid (R=.err en pl):=j4 (by rw [q9 hR,qh3 hc hj])
     have HJ:=j4 hj
     clear hc CON hR hj c0 c2 c3 c4 c5 c6 fz hk0
     go_wp2_with (first|(go_at_call 145;refine (q9 HCON _ (q9 HKS)).mono ?_;rintro e w' ⟨rfl,rfl⟩)|(go_at_call 146;refine (qy5 rb s op f (q9 HF) sl l _ _ (q9 hready) hopl (q9 HND)).mono ?_;rintro e w2 ⟨hk2,h2⟩;rw [q9 HJ] at h2;subst h2;simp only [qb4]))
     rw [q9 HRR]
     exact ⟨rfl,(q9 HK).trans hk2,rfl⟩
    | ok l2 st2=>
     have HRR:Hid (R=qb7 s f ks m l2 st2):=j4 (by rw [q9 hR,qf7 hc hj])
     have HJ:=j4 hj
     clear hc CON hR hj c0 c2 c3 c4 c5 c6 fz hk0
     go_wp2_with (first|(go_at_call 145;refine (q9 HCON _ (q9 HKS)).mono ?_;rintro e w' ⟨rfl,rfl⟩)|(go_at_call 146;refine (qy5 rb s op f (q9 HF) sl l _ _ (q9 hready) hopl (q9 HND)).mono ?_;rintro e w2 ⟨hk2,h2⟩;rw [q9 HJ] at h2;obtain ⟨v2,rfl,hn2,hr2,hf2,ho2,hp2⟩:=h2;have HPL2:=j4 (qr5 hr2);have hr2:=j4 hr2;have hn2:=j4 hn2;have hk2:=j4 hk2;have hf2:=j4 hf2))
     have hb2:=(q9 hf2).place
     go_roundw
     case rel=>exact ⟨m,l2,st2,HRR,by omega,q9 hn2,j4 ((q9 hready).kept (q9 hk2) (q9 hr2) (q9 hf2)),ho2,by omega,(q9 HK).trans (q9 hk2)⟩
     case measure=>rw [q9 HPL,q9 HPL2];omega
theorem jb9 (rb ob cap:Nat) (s:ByteArray) (op:Nat) (f:St→Res) (hf:qg4 266 rb s op f) (ks:List Int) (hks:ks.length≤8) (h0:ks.contains 0=false) (st:St) (w:World) (h:Ready rb s w st) (hop:st.op=op) (ho:KsAt w ob ks) (hob:ob<w.heap.size) (hne:¬ob=rb) :
  Calls Tryz.prog 101 #[.pointer (some ⟨rb,0,none⟩),.func (.func 266) #[.pointer (some ⟨rb,0,none⟩)] #[],.slice (some ⟨ob,0,none⟩) ks.length cap] w (Gives rb s w op st.place (qe4 s f ks st)):=by
 have H:=j4 h
 have HF:=j4 hf
 have HO:=j4 ho
 have hlt:=h.lt
 clear h hf ho
 cases hres:f st with
 | err en pl=>
  rw [qm0 hres]
  have HRES:=j4 hres
  clear hres
  go_enter Tryz.func101,Tryz.ntmps101
  go_wp2_with (go_at_call 266;refine (q9 HF _ st (q9 H) hop).mono ?_;rintro e w1 ⟨hk1,h1⟩;rw [q9 HRES] at h1;subst h1;simp only [qb4])
  exact ⟨rfl,hk1,rfl⟩
 | ok l0 st0=>
  rw [qp2 hres]
  have HRES:=j4 hres
  clear hres
  obtain ⟨R,hR⟩:∃r,qb7 s f ks (s.size+1) l0 st0=r:=⟨_,rfl⟩
  rw [hR]
  have HR:=j4 hR
  clear hR
  go_enter Tryz.func101,Tryz.ntmps101
  go_wp2_with (go_at_call 266;refine (q9 HF _ st (q9 H) hop).mono ?_;rintro e w1 ⟨hk1,h1⟩;rw [q9 HRES] at h1;obtain ⟨v1,rfl,hn1,hr1,hf1,ho1,hp1⟩:=h1;have hn1:=j4 hn1;have hr1:=j4 hr1;have hk1:=j4 hk1;have hf1:=j4 hf1)
  go_loopw [7] (fun v wr=>∃(n:Nat) (l:Ast) (sl:St),Hid (R=qb7 s f ks n l sl)∧s.size<n+sl.place∧IsNode rb wr v l∧Hid (Ready rb s wr sl)∧sl.op=op∧st.place≤sl.place∧Kept rb w wr) (fun v wr=>s.size+1 - plOf wr rb)
  case atStart=>exact ⟨s.size+1,l0,st0,j4 (q9 HR).symm,by omega,q9 hn1,j4 ((q9 H).kept (q9 hk1) (q9 hr1) (q9 hf1)),ho1,hp1,q9 hk1⟩
  case round=>
   obtain ⟨n,l,sl,hR,hn,hnode,hready,hopl,hpl,hk⟩:=hrel
   have hfine:=(q9 hready).fine
   have hf1':=hfine.place
   obtain ⟨lb,rfl⟩:=hnode.ptr
   obtain ⟨m,rfl⟩:∃m,n=m+1:=⟨n - 1,by omega⟩
   have HKS:=j4 ((q9 HO).kept hk hob hne)
   have HND:=j4 hnode
   have HK:=j4 hk
   have hltr:=(q9 hready).lt
   have HPL:=j4 (qr5 (q9 hready).at')
   obtain ⟨c0,c1,c2,c3,c4,c5,c6,fz⟩:=(q9 hready).at'
   clear hnode hk
   have CON:=fun w=>qp6 ob cap ks sl.tk.kind w hks
   cases hc:ks.contains sl.tk.kind with
   | false=>
    have HRR:Hid (R=.ok l sl):=j4 (by rw [q9 hR,qi2 hc])
    rw [hc] at CON
    have HCON:=j4 CON
    clear hc CON hR c0 c2 c3 c4 c5 c6 fz
    go_wp2_with (go_at_call 145;refine (q9 HCON _ (q9 HKS)).mono ?_;rintro e w' ⟨rfl,rfl⟩)
    go_ret
    rw [q9 HRR]
    exact ⟨q9 HK,_,rfl,q9 HND,(q9 hready).at',hfine,hopl,hpl⟩
   | true=>
    rw [hc] at CON
    have HCON:=j4 CON
    have hk0:sl.tk.kind≠0:=fun h=>by rw [h,h0] at hc;cases hc
    have hlong:=hfine.long hk0
    cases hj:qc9 s f sl l with
    | err en pl=>
     have HRR:Hid (R=.err en pl):=j4 (by rw [q9 hR,qh3 hc hj])
     have HJ:=j4 hj
     clear hc CON hR hj c0 c2 c3 c4 c5 c6 fz hk0
     go_wp2_with (first|(go_at_call 145;refine (q9 HCON _ (q9 HKS)).mono ?_;rintro e w' ⟨rfl,rfl⟩)|(go_at_call 146;refine (qw5 rb s op f (q9 HF) sl l _ _ (q9 hready) hopl (q9 HND)).mono ?_;rintro e w2 ⟨hk2,h2⟩;rw [q9 HJ] at h2;subst h2;simp only [qb4]))
     rw [q9 HRR]
     exact ⟨rfl,(q9 HK).trans hk2,rfl⟩
    | ok l2 st2=>
     have HRR:Hid (R=qb7 s f ks m l2 st2):=j4 (by rw [q9 hR,qf7 hc hj])
     have HJ:=j4 hj
     clear hc CON hR hj c0 c2 c3 c4 c5 c6 fz hk0
     go_wp2_with (first|(go_at_call 145;refine (q9 HCON _ (q9 HKS)).mono ?_;rintro e w' ⟨rfl,rfl⟩)|(go_at_call 146;refine (qw5 rb s op f (q9 HF) sl l _ _ (q9 hready) hopl (q9 HND)).mono ?_;rintro e w2 ⟨hk2,h2⟩;rw [q9 HJ] at h2;obtain ⟨v2,rfl,hn2,hr2,hf2,ho2,hp2⟩:=h2;have HPL2:=j4 (qr5 hr2);have hr2:=j4 hr2;have hn2:=j4 hn2;have hk2:=j4 hk2;have hf2:=j4 hf2))
     have hb2:=(q9 hf2).place
     go_roundw
     case rel=>exact ⟨m,l2,st2,HRR,by omega,q9 hn2,j4 ((q9 hready).kept (q9 hk2) (q9 hr2) (q9 hf2)),ho2,by omega,(q9 HK).trans (q9 hk2)⟩
     case measure=>rw [q9 HPL,q9 HPL2];omega
theorem jk3 (rb ob cap:Nat) (s:ByteArray) (op:Nat) (f:St→Res) (hf:qg4 301 rb s op f) (ks:List Int) (hks:ks.length≤8) (h0:ks.contains 0=false) (st:St) (w:World) (h:Ready rb s w st) (hop:st.op=op) (ho:KsAt w ob ks) (hob:ob<w.heap.size) (hne:¬ob=rb) :
  Calls Tryz.prog 101 #[.pointer (some ⟨rb,0,none⟩),.func (.func 301) #[.pointer (some ⟨rb,0,none⟩)] #[],.slice (some ⟨ob,0,none⟩) ks.length cap] w (Gives rb s w op st.place (qe4 s f ks st)):=by
 have H:=j4 h
 have HF:=j4 hf
 have HO:=j4 ho
 have hlt:=h.lt
 clear h hf ho
 cases hres:f st with
 | err en pl=>
  rw [qm0 hres]
  have HRES:=j4 hres
  clear hres
  go_enter Tryz.func101,Tryz.ntmps101
  go_wp2_with (go_at_call 301;refine (q9 HF _ st (q9 H) hop).mono ?_;rintro e w1 ⟨hk1,h1⟩;rw [q9 HRES] at h1;subst h1;simp only [qb4])
  exact ⟨rfl,hk1,rfl⟩
 | ok l0 st0=>
  rw [qp2 hres]
  have HRES:=j4 hres
  clear hres
  obtain ⟨R,hR⟩:∃r,qb7 s f ks (s.size+1) l0 st0=r:=⟨_,rfl⟩
  rw [hR]
  have HR:=j4 hR
  clear hR
  go_enter Tryz.func101,Tryz.ntmps101
  go_wp2_with (go_at_call 301;refine (q9 HF _ st (q9 H) hop).mono ?_;rintro e w1 ⟨hk1,h1⟩;rw [q9 HRES] at h1;obtain ⟨v1,rfl,hn1,hr1,hf1,ho1,hp1⟩:=h1;have hn1:=j4 hn1;have hr1:=j4 hr1;have hk1:=j4 hk1;have hf1:=j4 hf1)
  go_loopw [7] (fun v wr=>∃(n:Nat) (l:Ast) (sl:St),Hid (R=qb7 s f ks n l sl)∧s.size<n+sl.place∧IsNode rb wr v l∧Hid (Ready rb s wr sl)∧sl.op=op∧st.place≤sl.place∧Kept rb w wr) (fun v wr=>s.size+1 - plOf wr rb)
  case atStart=>exact ⟨s.size+1,l0,st0,j4 (q9 HR).symm,by omega,q9 hn1,j4 ((q9 H).kept (q9 hk1) (q9 hr1) (q9 hf1)),ho1,hp1,q9 hk1⟩
  case round=>
   obtain ⟨n,l,sl,hR,hn,hnode,hready,hopl,hpl,hk⟩:=hrel
   have hfine:=(q9 hready).fine
   have hf1':=hfine.place
   obtain ⟨lb,rfl⟩:=hnode.ptr
   obtain ⟨m,rfl⟩:∃m,n=m+1:=⟨n - 1,by omega⟩
   have HKS:=j4 ((q9 HO).kept hk hob hne)
   have HND:=j4 hnode
   have HK:=j4 hk
   have hltr:=(q9 hready).lt
   have HPL:=j4 (qr5 (q9 hready).at')
   obtain ⟨c0,c1,c2,c3,c4,c5,c6,fz⟩:=(q9 hready).at'
   clear hnode hk
   have CON:=fun w=>qp6 ob cap ks sl.tk.kind w hks
   cases hc:ks.contains sl.tk.kind with
   | false=>
    have HRR:Hid (R=.ok l sl):=j4 (by rw [q9 hR,qi2 hc])
    rw [hc] at CON
    have HCON:=j4 CON
    clear hc CON hR c0 c2 c3 c4 c5 c6 fz
    go_wp2_with (go_at_call 145;refine (q9 HCON _ (q9 HKS)).mono ?_;rintro e w' ⟨rfl,rfl⟩)
    go_ret
    rw [q9 HRR]
    exact ⟨q9 HK,_,rfl,q9 HND,(q9 hready).at',hfine,hopl,hpl⟩
   | true=>
    rw [hc] at CON
    have HCON:=j4 CON
    have hk0:sl.tk.kind≠0:=fun h=>by rw [h,h0] at hc;cases hc
    have hlong:=hfine.long hk0
    cases hj:qc9 s f sl l with
    | err en pl=>
     have HRR:Hid (R=.err en pl):=j4 (by rw [q9 hR,qh3 hc hj])
     have HJ:=j4 hj
     clear hc CON hR hj c0 c2 c3 c4 c5 c6 fz hk0
     go_wp2_with (first|(go_at_call 145;refine (q9 HCON _ (q9 HKS)).mono ?_;rintro e w' ⟨rfl,rfl⟩)|(go_at_call 146;refine (qy6 rb s op f (q9 HF) sl l _ _ (q9 hready) hopl (q9 HND)).mono ?_;rintro e w2 ⟨hk2,h2⟩;rw [q9 HJ] at h2;subst h2;simp only [qb4]))
     rw [q9 HRR]
     exact ⟨rfl,(q9 HK).trans hk2,rfl⟩
    | ok l2 st2=>
     have HRR:Hid (R=qb7 s f ks m l2 st2):=j4 (by rw [q9 hR,qf7 hc hj])
     have HJ:=j4 hj
     clear hc CON hR hj c0 c2 c3 c4 c5 c6 fz hk0
     go_wp2_with (first|(go_at_call 145;refine (q9 HCON _ (q9 HKS)).mono ?_;rintro e w' ⟨rfl,rfl⟩)|(go_at_call 146;refine (qy6 rb s op f (q9 HF) sl l _ _ (q9 hready) hopl (q9 HND)).mono ?_;rintro e w2 ⟨hk2,h2⟩;rw [q9 HJ] at h2;obtain ⟨v2,rfl,hn2,hr2,hf2,ho2,hp2⟩:=h2;have HPL2:=j4 (qr5 hr2);have hr2:=j4 hr2;have hn2:=j4 hn2;have hk2:=j4 hk2;have hf2:=j4 hf2))
     have hb2:=(q9 hf2).place
     go_roundw
     case rel=>exact ⟨m,l2,st2,HRR,by omega,q9 hn2,j4 ((q9 hready).kept (q9 hk2) (q9 hr2) (q9 hf2)),ho2,by omega,(q9 HK).trans (q9 hk2)⟩
     case measure=>rw [q9 HPL,q9 HPL2];omega
end
section
theorem Ready.allocd {rb:Nat} {s:ByteArray} {w:World} {st:St} (h:Ready rb s w st) (o:Obj):Ready rb s (w.alloc o) st:=
 h.kept ((Kept.refl rb w).alloc o) (h.at'.allocd o h.lt) h.fine
theorem Gives.from {rb:Nat} {s:ByteArray} {w w1:World} {op lo:Nat} {r:Res} {e:Ending} {w':World} (hk:Kept rb w w1) (h:Gives rb s w1 op lo r e w'):Gives rb s w op lo r e w':=⟨hk.trans h.1,h.2⟩
theorem Gives.cases {rb:Nat} {s:ByteArray} {w:World} {op lo:Nat} {r:Res} {e:Ending} {w':World} (h:Gives rb s w op lo r e w'):(∃v,e=.returned v∧Gives rb s w op lo r (.returned v) w')∨(∃en pl,e=qb4 en pl∧Gives rb s w op lo r (qb4 en pl) w'):=by
 cases r with
 | ok t st=>obtain ⟨hk,v,rfl,h2⟩:=h;exact .inl ⟨v,rfl,hk,v,rfl,h2⟩
 | err en pl=>obtain ⟨hk,rfl⟩:=h;exact .inr ⟨en,pl,rfl,hk,rfl⟩
theorem vs2 (rb:Nat) (s:ByteArray) (op:Nat) (f:St→Res) (hf:qg4 102 rb s op f):qg4 55 rb s op (qe4 s f [6]):=by
 intro w st h hop
 have H:=j4 h
 have HF:=j4 hf
 have hmf:∀(fn:Fn) (first cap:Array Value) (w:World),(Instr.makeFunc fn first cap).run Tryz.prog w=.ok (.func fn first cap) w:=fun _ _ _ _=>rfl
 have hlt:=h.lt
 clear h hf
 go_enter Tryz.func55,Tryz.ntmps55
 go_wp2_with fail
 refine (row_both rb w.heap.size 1 s op f (q9 HF) [6] (by decide) (by decide) st _ ((q9 H).allocd _) hop ?ks (by simp) (by omega)).mono ?_
 case ks=>
  intro j k hj
  match j,hj with
  | 0,hj=>simp at hj;subst hj;simp
 rintro e w' hg
 rcases hg.cases with ⟨v,rfl,hg⟩|⟨en,pl,rfl,hg⟩
 ·have HG:=j4 (hg.from ((Kept.refl rb w).alloc _))
  clear hg
  go_wp2_with fail
  go_ret
  exact q9 HG
 ·exact ⟨rfl,hg.from ((Kept.refl rb w).alloc _)⟩
theorem jg5 (rb:Nat) (s:ByteArray) (op:Nat) (f:St→Res) (hf:qg4 147 rb s op f):qg4 102 rb s op (qe4 s f [5]):=by
 intro w st h hop
 have H:=j4 h
 have HF:=j4 hf
 have hmf:∀(fn:Fn) (first cap:Array Value) (w:World),(Instr.makeFunc fn first cap).run Tryz.prog w=.ok (.func fn first cap) w:=fun _ _ _ _=>rfl
 have hlt:=h.lt
 clear h hf
 go_enter Tryz.func102,Tryz.ntmps102
 go_wp2_with fail
 refine (jk2 rb w.heap.size 1 s op f (q9 HF) [5] (by decide) (by decide) st _ ((q9 H).allocd _) hop ?ks (by simp) (by omega)).mono ?_
 case ks=>
  intro j k hj
  match j,hj with
  | 0,hj=>simp at hj;subst hj;simp
 rintro e w' hg
 rcases hg.cases with ⟨v,rfl,hg⟩|⟨en,pl,rfl,hg⟩
 ·have HG:=j4 (hg.from ((Kept.refl rb w).alloc _))
  clear hg
  go_wp2_with fail
  go_ret
  exact q9 HG
 ·exact ⟨rfl,hg.from ((Kept.refl rb w).alloc _)⟩
theorem sum_reads (rb:Nat) (s:ByteArray) (op:Nat) (f:St→Res) (hf:qg4 266 rb s op f):qg4 241 rb s op (qe4 s f [22,23]):=by
 intro w st h hop
 have H:=j4 h
 have HF:=j4 hf
 have hmf:∀(fn:Fn) (first cap:Array Value) (w:World),(Instr.makeFunc fn first cap).run Tryz.prog w=.ok (.func fn first cap) w:=fun _ _ _ _=>rfl
 have hlt:=h.lt
 clear h hf
 go_enter Tryz.func241,Tryz.ntmps241
 go_wp2_with fail
 refine (jb9 rb w.heap.size 2 s op f (q9 HF) [22,23] (by decide) (by decide) st _ ((q9 H).allocd _) hop ?ks (by simp) (by omega)).mono ?_
 case ks=>
  intro j k hj
  match j,hj with
  | 0,hj=>simp at hj;subst hj;simp
  | 1,hj=>simp at hj;subst hj;simp
 rintro e w' hg
 rcases hg.cases with ⟨v,rfl,hg⟩|⟨en,pl,rfl,hg⟩
 ·have HG:=j4 (hg.from ((Kept.refl rb w).alloc _))
  clear hg
  go_wp2_with fail
  go_ret
  exact q9 HG
 ·exact ⟨rfl,hg.from ((Kept.refl rb w).alloc _)⟩
theorem vn9 (rb:Nat) (s:ByteArray) (op:Nat) (f:St→Res) (hf:qg4 301 rb s op f):qg4 266 rb s op (qe4 s f [24,25]):=by
 intro w st h hop
 have H:=j4 h
 have HF:=j4 hf
 have hmf:∀(fn:Fn) (first cap:Array Value) (w:World),(Instr.makeFunc fn first cap).run Tryz.prog w=.ok (.func fn first cap) w:=fun _ _ _ _=>rfl
 have hlt:=h.lt
 clear h hf
 go_enter Tryz.func266,Tryz.ntmps266
 go_wp2_with fail
 refine (jk3 rb w.heap.size 2 s op f (q9 HF) [24,25] (by decide) (by decide) st _ ((q9 H).allocd _) hop ?ks (by simp) (by omega)).mono ?_
 case ks=>
  intro j k hj
  match j,hj with
  | 0,hj=>simp at hj;subst hj;simp
  | 1,hj=>simp at hj;subst hj;simp
 rintro e w' hg
 rcases hg.cases with ⟨v,rfl,hg⟩|⟨en,pl,rfl,hg⟩
 ·have HG:=j4 (hg.from ((Kept.refl rb w).alloc _))
  clear hg
  go_wp2_with fail
  go_ret
  exact q9 HG
 ·exact ⟨rfl,hg.from ((Kept.refl rb w).alloc _)⟩
end
end Go.Proofs.YtfkcaldjphakpaaGreatDoor
