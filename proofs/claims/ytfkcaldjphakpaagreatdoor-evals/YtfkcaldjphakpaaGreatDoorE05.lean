/- joined: a term of two sides, whatever reads the second one. row: operands with operators of one rank between them, whatever reads an operand. either, both, sum, product: rows of operators, each over what reads its operand. group and denial. What append leaves of the reader's things; terms with texts. sign, signed, denied. signed. -/
import Derived.Test.YtfkcaldjphakpaaGreatDoorE04
import Derived.Deep.RegionHeld3
set_option maxHeartbeats 2000000
set_option maxRecDepth 100000
namespace Go.Proofs.YtfkcaldjphakpaaGreatDoor
open Go.RowKit
section
def vm6 (st:St) (l r:Ast):Ast:=.bin ⟨qu8 st.tk.kind,st.place,0,[],[],[]⟩ l r
def qc2 (s:ByteArray) (f:St→Res) (st:St) (l:Ast):Res:=match f (v6 s st) with
 | .ok r st'=>.ok (vm6 st l r) st'
 | .err en pl=>.err en pl
theorem qf8 {s:ByteArray} {f:St→Res} {st:St} {l r:Ast} {st':St} (h:f (v6 s st)=.ok r st'):qc2 s f st l=.ok (vm6 st l r) st':=by unfold qc2;rw [h]
theorem qe5 {s:ByteArray} {f:St→Res} {st:St} {l:Ast} {en pl:Int} (h:f (v6 s st)=.err en pl):qc2 s f st l=.err en pl:=by unfold qc2;rw [h]
theorem gone {Q:Prop} {w:World} (h:Q) (_:wpAny Tryz.prog .any #[] (fun _ _ _=>True) 0 #[] ⟨#[],[]⟩ w):Q:=h
theorem stepSt_op (s:ByteArray) (st:St):(v6 s st).op=st.op:=rfl
theorem Ready.stepped {rb:Nat} {s:ByteArray} {w w1:World} {st:St} (h:Ready rb s w st) (hk:Kept rb w w1) (hr:RdAt w1 rb s (v6 s st)):Ready rb s w1.drew (v6 s st):=
 h.kept hk.drew (hr.below ((Below.refl w1.heap.size w1).drew) (Nat.lt_of_lt_of_le h.lt hk.size)) (x8 s st h.fine.after)
theorem IsNode.ptr {rb:Nat} {w:World} {v:Value} {t:Ast} (h:IsNode rb w v t):∃b,v=.pointer (some ⟨b,0,none⟩):=by
 cases t with
 | leaf p=>obtain ⟨b,hv,_⟩:=h;exact ⟨b,hv⟩
 | un p x=>obtain ⟨b,g,v1,hv,_⟩:=h;exact ⟨b,hv⟩
 | bin p x y=>obtain ⟨b,g,v1,v2,hv,_⟩:=h;exact ⟨b,hv⟩
 | tri p x y z=>obtain ⟨b,g,v1,v2,v3,hv,_⟩:=h;exact ⟨b,hv⟩
theorem IsNode.two {rb:Nat} {w:World} {l r:Ast} {lv rv:Value} (hl:IsNode rb w lv l) (hr:IsNode rb w rv r) (hlt:rb<w.heap.size) (op place:Int) :
  IsNode rb ((w.alloc (.cells #[lv,rv] 67)).alloc (.cells #[.int .i64 op,.int .i64 place,.slice (some ⟨w.heap.size,0,none⟩) 2 2,.int .i64 0,.string ⟨#[]⟩,.string ⟨#[]⟩,.slice none 0 0] 102))
   (.pointer (some ⟨w.heap.size+1,0,none⟩)) (.bin ⟨op,place,0,[],[],[]⟩ l r):=by
 have hk:Kept rb w ((w.alloc (.cells #[lv,rv] 67)).alloc (.cells #[.int .i64 op,.int .i64 place,.slice (some ⟨w.heap.size,0,none⟩) 2 2,.int .i64 0,.string ⟨#[]⟩,.string ⟨#[]⟩,.slice none 0 0] 102)):=((Kept.refl rb w).alloc _).alloc _
 refine ⟨w.heap.size+1,w.heap.size,lv,rv,rfl,⟨by omega,by simp,by simp,by simp,by simp,by simp,by simp [BS],by simp [BS],.slice none 0 0,by simp,.inl ⟨rfl,rfl⟩⟩,hlt,by simp;omega, ?_, ?_,hl.kept hk,hr.kept hk⟩
 ·rw [World.cell?_alloc_past _ _ _ (by simp),World.cell?_alloc_at _ _ _ _ rfl];rfl
 ·rw [World.cell?_alloc_past _ _ _ (by simp),World.cell?_alloc_at _ _ _ _ rfl];rfl
theorem vb7 (rb:Nat) (s:ByteArray) (op:Nat) (f:St→Res) (hf:qf6 102 rb s op f) (st:St) (l:Ast) (lv:Value) (w:World) (h:Ready rb s w st) (hop:st.op=op) (hl:IsNode rb w lv l) :
  Calls Tryz.prog 146 #[.pointer (some ⟨rb,0,none⟩),lv,.func (.func 102) #[.pointer (some ⟨rb,0,none⟩)] #[]] w (Gives rb s w op st.after (qc2 s f st l)):=by
 have hr:=h.at'
 have hlt:=h.lt
 have H:=v7 h
 obtain ⟨c0,c1,c2,c3,c4,c5,c6,fz⟩:=hr
 have HF:=v7 hf
 obtain ⟨lb,rfl⟩:=hl.ptr
 have HL:=v7 hl
 have n0:¬w.heap.size=rb:=by omega
 clear hf h hl
 cases hres:f (v6 s st) with
 | ok r st'=>
  rw [qf8 hres]
  have HRES:=v7 hres
  clear hres
  go_enter Tryz.func146,Tryz.ntmps146
  go_wp2_with (go_at_call 54;refine (qc9 rb s st _ (q9 H).size (q9 H).fine.after ((q9 H).at'.allocd _ hlt) (by simp;omega) ((q9 H).err.alloc _)).mono ?_;rintro e w1 ⟨rfl,hr1,hk1⟩;have hr1:=v7 hr1;have hz1:w.heap.size<w1.heap.size:=(by have:=hk1.size;simp at this;omega);have p0:w1.cell? ⟨w.heap.size,0,none⟩=some (.int .i64 st.tk.kind):=((qa5 hk1).1 _ 0 (by simp) n0).trans (by simp);have p1:w1.cell? ⟨w.heap.size,1,none⟩=some (.int .i64 st.place):=((qa5 hk1).1 _ 1 (by simp) n0).trans (by simp);have hK1:=v7 (((Kept.refl rb w).alloc _).trans hk1);clear hk1)
  go_region_held3 (fun w'=>w'.cell? ⟨w.heap.size,0,none⟩=some (.int .i64 st.tk.kind)∧w'.cell? ⟨w.heap.size,1,none⟩=some (.int .i64 st.place)) (go_keep) (first|(go_at_call 197;refine (qf3 _ _).mono ?_;rintro e w' ⟨rfl,rfl⟩)|(go_at_call 102;refine (q9 HF _ (v6 s st) ((q9 H).stepped (q9 hK1) (q9 hr1)) hop).mono ?_;rintro e w2 ⟨hk2,h2⟩;rw [q9 HRES] at h2;obtain ⟨v2,rfl,hn2,hr2,ha2,ho2,hp2⟩:=h2;obtain ⟨vb,rfl⟩:=hn2.ptr;have p0':w2.cell? ⟨w.heap.size,0,none⟩=some (.int .i64 st.tk.kind):=((qa5 hk2).1 _ 0 hz1 n0).trans p0;have p1':w2.cell? ⟨w.heap.size,1,none⟩=some (.int .i64 st.place):=((qa5 hk2).1 _ 1 hz1 n0).trans p1;have hz2:w.heap.size<w2.heap.size:=Nat.lt_of_lt_of_le hz1 hk2.size;have hk2:=v7 hk2;have hn2:=v7 hn2;have hr2:=v7 hr2))
  all_goals (go_wp2_with fail)
  all_goals go_ret
  refine ⟨?_,_,rfl, ?_, ?_,ha2,ho2,Nat.le_trans (qf2 s st) hp2⟩
  ·exact ((((q9 hK1).trans ((Kept.refl rb w1).drew.trans (q9 hk2))).alloc _).alloc _)
  ·have:=IsNode.two (op:=qu8 st.tk.kind) (place:=st.place) ((q9 HL).kept ((q9 hK1).trans ((Kept.refl rb w1).drew.trans (q9 hk2)))) (q9 hn2) (by omega)
   exact this
  ·exact (((q9 hr2).allocd _ (by omega)).allocd _ (by simp;omega))
 | err en pl=>
  rw [qe5 hres]
  have HRES:=v7 hres
  clear hres
  go_enter Tryz.func146,Tryz.ntmps146
  go_wp2_with (go_at_call 54;refine (qc9 rb s st _ (q9 H).size (q9 H).fine.after ((q9 H).at'.allocd _ hlt) (by simp;omega) ((q9 H).err.alloc _)).mono ?_;rintro e w1 ⟨rfl,hr1,hk1⟩;have hr1:=v7 hr1;have hz1:w.heap.size<w1.heap.size:=(by have:=hk1.size;simp at this;omega);have p0:w1.cell? ⟨w.heap.size,0,none⟩=some (.int .i64 st.tk.kind):=((qa5 hk1).1 _ 0 (by simp) n0).trans (by simp);have p1:w1.cell? ⟨w.heap.size,1,none⟩=some (.int .i64 st.place):=((qa5 hk1).1 _ 1 (by simp) n0).trans (by simp);have hK1:=v7 (((Kept.refl rb w).alloc _).trans hk1);clear hk1)
  go_region_with (first|(go_at_call 197;refine (qf3 _ _).mono ?_;rintro e w' ⟨rfl,rfl⟩)|(go_at_call 102;refine (q9 HF _ (v6 s st) ((q9 H).stepped (q9 hK1) (q9 hr1)) hop).mono ?_;rintro e w2 ⟨hk2,h2⟩;rw [q9 HRES] at h2;subst h2;refine gone (w:=w2) ⟨rfl,(q9 hK1).trans ((Kept.refl rb w1).drew.trans hk2),rfl⟩ ?_))
  all_goals trivial
theorem qw0 (rb:Nat) (s:ByteArray) (op:Nat) (f:St→Res) (hf:qf6 147 rb s op f) (st:St) (l:Ast) (lv:Value) (w:World) (h:Ready rb s w st) (hop:st.op=op) (hl:IsNode rb w lv l) :
  Calls Tryz.prog 146 #[.pointer (some ⟨rb,0,none⟩),lv,.func (.func 147) #[.pointer (some ⟨rb,0,none⟩)] #[]] w (Gives rb s w op st.after (qc2 s f st l)):=by
 have hr:=h.at'
 have hlt:=h.lt
 have H:=v7 h
 obtain ⟨c0,c1,c2,c3,c4,c5,c6,fz⟩:=hr
 have HF:=v7 hf
 obtain ⟨lb,rfl⟩:=hl.ptr
 have HL:=v7 hl
 have n0:¬w.heap.size=rb:=by omega
 clear hf h hl
 cases hres:f (v6 s st) with
 | ok r st'=>
  rw [qf8 hres]
  have HRES:=v7 hres
  clear hres
  go_enter Tryz.func146,Tryz.ntmps146
  go_wp2_with (go_at_call 54;refine (qc9 rb s st _ (q9 H).size (q9 H).fine.after ((q9 H).at'.allocd _ hlt) (by simp;omega) ((q9 H).err.alloc _)).mono ?_;rintro e w1 ⟨rfl,hr1,hk1⟩;have hr1:=v7 hr1;have hz1:w.heap.size<w1.heap.size:=(by have:=hk1.size;simp at this;omega);have p0:w1.cell? ⟨w.heap.size,0,none⟩=some (.int .i64 st.tk.kind):=((qa5 hk1).1 _ 0 (by simp) n0).trans (by simp);have p1:w1.cell? ⟨w.heap.size,1,none⟩=some (.int .i64 st.place):=((qa5 hk1).1 _ 1 (by simp) n0).trans (by simp);have hK1:=v7 (((Kept.refl rb w).alloc _).trans hk1);clear hk1)
  go_region_held3 (fun w'=>w'.cell? ⟨w.heap.size,0,none⟩=some (.int .i64 st.tk.kind)∧w'.cell? ⟨w.heap.size,1,none⟩=some (.int .i64 st.place)) (go_keep) (first|(go_at_call 197;refine (qf3 _ _).mono ?_;rintro e w' ⟨rfl,rfl⟩)|(go_at_call 147;refine (q9 HF _ (v6 s st) ((q9 H).stepped (q9 hK1) (q9 hr1)) hop).mono ?_;rintro e w2 ⟨hk2,h2⟩;rw [q9 HRES] at h2;obtain ⟨v2,rfl,hn2,hr2,ha2,ho2,hp2⟩:=h2;obtain ⟨vb,rfl⟩:=hn2.ptr;have p0':w2.cell? ⟨w.heap.size,0,none⟩=some (.int .i64 st.tk.kind):=((qa5 hk2).1 _ 0 hz1 n0).trans p0;have p1':w2.cell? ⟨w.heap.size,1,none⟩=some (.int .i64 st.place):=((qa5 hk2).1 _ 1 hz1 n0).trans p1;have hz2:w.heap.size<w2.heap.size:=Nat.lt_of_lt_of_le hz1 hk2.size;have hk2:=v7 hk2;have hn2:=v7 hn2;have hr2:=v7 hr2))
  all_goals (go_wp2_with fail)
  all_goals go_ret
  refine ⟨?_,_,rfl, ?_, ?_,ha2,ho2,Nat.le_trans (qf2 s st) hp2⟩
  ·exact ((((q9 hK1).trans ((Kept.refl rb w1).drew.trans (q9 hk2))).alloc _).alloc _)
  ·have:=IsNode.two (op:=qu8 st.tk.kind) (place:=st.place) ((q9 HL).kept ((q9 hK1).trans ((Kept.refl rb w1).drew.trans (q9 hk2)))) (q9 hn2) (by omega)
   exact this
  ·exact (((q9 hr2).allocd _ (by omega)).allocd _ (by simp;omega))
 | err en pl=>
  rw [qe5 hres]
  have HRES:=v7 hres
  clear hres
  go_enter Tryz.func146,Tryz.ntmps146
  go_wp2_with (go_at_call 54;refine (qc9 rb s st _ (q9 H).size (q9 H).fine.after ((q9 H).at'.allocd _ hlt) (by simp;omega) ((q9 H).err.alloc _)).mono ?_;rintro e w1 ⟨rfl,hr1,hk1⟩;have hr1:=v7 hr1;have hz1:w.heap.size<w1.heap.size:=(by have:=hk1.size;simp at this;omega);have p0:w1.cell? ⟨w.heap.size,0,none⟩=some (.int .i64 st.tk.kind):=((qa5 hk1).1 _ 0 (by simp) n0).trans (by simp);have p1:w1.cell? ⟨w.heap.size,1,none⟩=some (.int .i64 st.place):=((qa5 hk1).1 _ 1 (by simp) n0).trans (by simp);have hK1:=v7 (((Kept.refl rb w).alloc _).trans hk1);clear hk1)
  go_region_with (first|(go_at_call 197;refine (qf3 _ _).mono ?_;rintro e w' ⟨rfl,rfl⟩)|(go_at_call 147;refine (q9 HF _ (v6 s st) ((q9 H).stepped (q9 hK1) (q9 hr1)) hop).mono ?_;rintro e w2 ⟨hk2,h2⟩;rw [q9 HRES] at h2;subst h2;refine gone (w:=w2) ⟨rfl,(q9 hK1).trans ((Kept.refl rb w1).drew.trans hk2),rfl⟩ ?_))
  all_goals trivial
theorem qu5 (rb:Nat) (s:ByteArray) (op:Nat) (f:St→Res) (hf:qf6 266 rb s op f) (st:St) (l:Ast) (lv:Value) (w:World) (h:Ready rb s w st) (hop:st.op=op) (hl:IsNode rb w lv l) :
  Calls Tryz.prog 146 #[.pointer (some ⟨rb,0,none⟩),lv,.func (.func 266) #[.pointer (some ⟨rb,0,none⟩)] #[]] w (Gives rb s w op st.after (qc2 s f st l)):=by
 have hr:=h.at'
 have hlt:=h.lt
 have H:=v7 h
 obtain ⟨c0,c1,c2,c3,c4,c5,c6,fz⟩:=hr
 have HF:=v7 hf
 obtain ⟨lb,rfl⟩:=hl.ptr
 have HL:=v7 hl
 have n0:¬w.heap.size=rb:=by omega
 clear hf h hl
 cases hres:f (v6 s st) with
 | ok r st'=>
  rw [qf8 hres]
  have HRES:=v7 hres
  clear hres
  go_enter Tryz.func146,Tryz.ntmps146
  go_wp2_with (go_at_call 54;refine (qc9 rb s st _ (q9 H).size (q9 H).fine.after ((q9 H).at'.allocd _ hlt) (by simp;omega) ((q9 H).err.alloc _)).mono ?_;rintro e w1 ⟨rfl,hr1,hk1⟩;have hr1:=v7 hr1;have hz1:w.heap.size<w1.heap.size:=(by have:=hk1.size;simp at this;omega);have p0:w1.cell? ⟨w.heap.size,0,none⟩=some (.int .i64 st.tk.kind):=((qa5 hk1).1 _ 0 (by simp) n0).trans (by simp);have p1:w1.cell? ⟨w.heap.size,1,none⟩=some (.int .i64 st.place):=((qa5 hk1).1 _ 1 (by simp) n0).trans (by simp);have hK1:=v7 (((Kept.refl rb w).alloc _).trans hk1);clear hk1)
  go_region_held3 (fun w'=>w'.cell? ⟨w.heap.size,0,none⟩=some (.int .i64 st.tk.kind)∧w'.cell? ⟨w.heap.size,1,none⟩=some (.int .i64 st.place)) (go_keep) (first|(go_at_call 197;refine (qf3 _ _).mono ?_;rintro e w' ⟨rfl,rfl⟩)|(go_at_call 266;refine (q9 HF _ (v6 s st) ((q9 H).stepped (q9 hK1) (q9 hr1)) hop).mono ?_;rintro e w2 ⟨hk2,h2⟩;rw [q9 HRES] at h2;obtain ⟨v2,rfl,hn2,hr2,ha2,ho2,hp2⟩:=h2;obtain ⟨vb,rfl⟩:=hn2.ptr;have p0':w2.cell? ⟨w.heap.size,0,none⟩=some (.int .i64 st.tk.kind):=((qa5 hk2).1 _ 0 hz1 n0).trans p0;have p1':w2.cell? ⟨w.heap.size,1,none⟩=some (.int .i64 st.place):=((qa5 hk2).1 _ 1 hz1 n0).trans p1;have hz2:w.heap.size<w2.heap.size:=Nat.lt_of_lt_of_le hz1 hk2.size;have hk2:=v7 hk2;have hn2:=v7 hn2;have hr2:=v7 hr2))
  all_goals (go_wp2_with fail)
  all_goals go_ret
  refine ⟨?_,_,rfl, ?_, ?_,ha2,ho2,Nat.le_trans (qf2 s st) hp2⟩
  ·exact ((((q9 hK1).trans ((Kept.refl rb w1).drew.trans (q9 hk2))).alloc _).alloc _)
  ·have:=IsNode.two (op:=qu8 st.tk.kind) (place:=st.place) ((q9 HL).kept ((q9 hK1).trans ((Kept.refl rb w1).drew.trans (q9 hk2)))) (q9 hn2) (by omega)
   exact this
  ·exact (((q9 hr2).allocd _ (by omega)).allocd _ (by simp;omega))
 | err en pl=>
  rw [qe5 hres]
  have HRES:=v7 hres
  clear hres
  go_enter Tryz.func146,Tryz.ntmps146
  go_wp2_with (go_at_call 54;refine (qc9 rb s st _ (q9 H).size (q9 H).fine.after ((q9 H).at'.allocd _ hlt) (by simp;omega) ((q9 H).err.alloc _)).mono ?_;rintro e w1 ⟨rfl,hr1,hk1⟩;have hr1:=v7 hr1;have hz1:w.heap.size<w1.heap.size:=(by have:=hk1.size;simp at this;omega);have p0:w1.cell? ⟨w.heap.size,0,none⟩=some (.int .i64 st.tk.kind):=((qa5 hk1).1 _ 0 (by simp) n0).trans (by simp);have p1:w1.cell? ⟨w.heap.size,1,none⟩=some (.int .i64 st.place):=((qa5 hk1).1 _ 1 (by simp) n0).trans (by simp);have hK1:=v7 (((Kept.refl rb w).alloc _).trans hk1);clear hk1)
  go_region_with (first|(go_at_call 197;refine (qf3 _ _).mono ?_;rintro e w' ⟨rfl,rfl⟩)|(go_at_call 266;refine (q9 HF _ (v6 s st) ((q9 H).stepped (q9 hK1) (q9 hr1)) hop).mono ?_;rintro e w2 ⟨hk2,h2⟩;rw [q9 HRES] at h2;subst h2;refine gone (w:=w2) ⟨rfl,(q9 hK1).trans ((Kept.refl rb w1).drew.trans hk2),rfl⟩ ?_))
  all_goals trivial
theorem qw1 (rb:Nat) (s:ByteArray) (op:Nat) (f:St→Res) (hf:qf6 301 rb s op f) (st:St) (l:Ast) (lv:Value) (w:World) (h:Ready rb s w st) (hop:st.op=op) (hl:IsNode rb w lv l) :
  Calls Tryz.prog 146 #[.pointer (some ⟨rb,0,none⟩),lv,.func (.func 301) #[.pointer (some ⟨rb,0,none⟩)] #[]] w (Gives rb s w op st.after (qc2 s f st l)):=by
 have hr:=h.at'
 have hlt:=h.lt
 have H:=v7 h
 obtain ⟨c0,c1,c2,c3,c4,c5,c6,fz⟩:=hr
 have HF:=v7 hf
 obtain ⟨lb,rfl⟩:=hl.ptr
 have HL:=v7 hl
 have n0:¬w.heap.size=rb:=by omega
 clear hf h hl
 cases hres:f (v6 s st) with
 | ok r st'=>
  rw [qf8 hres]
  have HRES:=v7 hres
  clear hres
  go_enter Tryz.func146,Tryz.ntmps146
  go_wp2_with (go_at_call 54;refine (qc9 rb s st _ (q9 H).size (q9 H).fine.after ((q9 H).at'.allocd _ hlt) (by simp;omega) ((q9 H).err.alloc _)).mono ?_;rintro e w1 ⟨rfl,hr1,hk1⟩;have hr1:=v7 hr1;have hz1:w.heap.size<w1.heap.size:=(by have:=hk1.size;simp at this;omega);have p0:w1.cell? ⟨w.heap.size,0,none⟩=some (.int .i64 st.tk.kind):=((qa5 hk1).1 _ 0 (by simp) n0).trans (by simp);have p1:w1.cell? ⟨w.heap.size,1,none⟩=some (.int .i64 st.place):=((qa5 hk1).1 _ 1 (by simp) n0).trans (by simp);have hK1:=v7 (((Kept.refl rb w).alloc _).trans hk1);clear hk1)
  go_region_held3 (fun w'=>w'.cell? ⟨w.heap.size,0,none⟩=some (.int .i64 st.tk.kind)∧w'.cell? ⟨w.heap.size,1,none⟩=some (.int .i64 st.place)) (go_keep) (first|(go_at_call 197;refine (qf3 _ _).mono ?_;rintro e w' ⟨rfl,rfl⟩)|(go_at_call 301;refine (q9 HF _ (v6 s st) ((q9 H).stepped (q9 hK1) (q9 hr1)) hop).mono ?_;rintro e w2 ⟨hk2,h2⟩;rw [q9 HRES] at h2;obtain ⟨v2,rfl,hn2,hr2,ha2,ho2,hp2⟩:=h2;obtain ⟨vb,rfl⟩:=hn2.ptr;have p0':w2.cell? ⟨w.heap.size,0,none⟩=some (.int .i64 st.tk.kind):=((qa5 hk2).1 _ 0 hz1 n0).trans p0;have p1':w2.cell? ⟨w.heap.size,1,none⟩=some (.int .i64 st.place):=((qa5 hk2).1 _ 1 hz1 n0).trans p1;have hz2:w.heap.size<w2.heap.size:=Nat.lt_of_lt_of_le hz1 hk2.size;have hk2:=v7 hk2;have hn2:=v7 hn2;have hr2:=v7 hr2))
  all_goals (go_wp2_with fail)
  all_goals go_ret
  refine ⟨?_,_,rfl, ?_, ?_,ha2,ho2,Nat.le_trans (qf2 s st) hp2⟩
  ·exact ((((q9 hK1).trans ((Kept.refl rb w1).drew.trans (q9 hk2))).alloc _).alloc _)
  ·have:=IsNode.two (op:=qu8 st.tk.kind) (place:=st.place) ((q9 HL).kept ((q9 hK1).trans ((Kept.refl rb w1).drew.trans (q9 hk2)))) (q9 hn2) (by omega)
   exact this
  ·exact (((q9 hr2).allocd _ (by omega)).allocd _ (by simp;omega))
 | err en pl=>
  rw [qe5 hres]
  have HRES:=v7 hres
  clear hres
  go_enter Tryz.func146,Tryz.ntmps146
  go_wp2_with (go_at_call 54;refine (qc9 rb s st _ (q9 H).size (q9 H).fine.after ((q9 H).at'.allocd _ hlt) (by simp;omega) ((q9 H).err.alloc _)).mono ?_;rintro e w1 ⟨rfl,hr1,hk1⟩;have hr1:=v7 hr1;have hz1:w.heap.size<w1.heap.size:=(by have:=hk1.size;simp at this;omega);have p0:w1.cell? ⟨w.heap.size,0,none⟩=some (.int .i64 st.tk.kind):=((qa5 hk1).1 _ 0 (by simp) n0).trans (by simp);have p1:w1.cell? ⟨w.heap.size,1,none⟩=some (.int .i64 st.place):=((qa5 hk1).1 _ 1 (by simp) n0).trans (by simp);have hK1:=v7 (((Kept.refl rb w).alloc _).trans hk1);clear hk1)
  go_region_with (first|(go_at_call 197;refine (qf3 _ _).mono ?_;rintro e w' ⟨rfl,rfl⟩)|(go_at_call 301;refine (q9 HF _ (v6 s st) ((q9 H).stepped (q9 hK1) (q9 hr1)) hop).mono ?_;rintro e w2 ⟨hk2,h2⟩;rw [q9 HRES] at h2;subst h2;refine gone (w:=w2) ⟨rfl,(q9 hK1).trans ((Kept.refl rb w1).drew.trans hk2),rfl⟩ ?_))
  all_goals trivial
theorem qn3 (rb:Nat) (s:ByteArray) (op:Nat) (f:St→Res) (hf:qf6 241 rb s op f) (st:St) (l:Ast) (lv:Value) (w:World) (h:Ready rb s w st) (hop:st.op=op) (hl:IsNode rb w lv l) :
  Calls Tryz.prog 146 #[.pointer (some ⟨rb,0,none⟩),lv,.func (.func 241) #[.pointer (some ⟨rb,0,none⟩)] #[]] w (Gives rb s w op st.after (qc2 s f st l)):=by
 have hr:=h.at'
 have hlt:=h.lt
 have H:=v7 h
 obtain ⟨c0,c1,c2,c3,c4,c5,c6,fz⟩:=hr
 have HF:=v7 hf
 obtain ⟨lb,rfl⟩:=hl.ptr
 have HL:=v7 hl
 have n0:¬w.heap.size=rb:=by omega
 clear hf h hl
 cases hres:f (v6 s st) with
 | ok r st'=>
  rw [qf8 hres]
  have HRES:=v7 hres
  clear hres
  go_enter Tryz.func146,Tryz.ntmps146
  go_wp2_with (go_at_call 54;refine (qc9 rb s st _ (q9 H).size (q9 H).fine.after ((q9 H).at'.allocd _ hlt) (by simp;omega) ((q9 H).err.alloc _)).mono ?_;rintro e w1 ⟨rfl,hr1,hk1⟩;have hr1:=v7 hr1;have hz1:w.heap.size<w1.heap.size:=(by have:=hk1.size;simp at this;omega);have p0:w1.cell? ⟨w.heap.size,0,none⟩=some (.int .i64 st.tk.kind):=((qa5 hk1).1 _ 0 (by simp) n0).trans (by simp);have p1:w1.cell? ⟨w.heap.size,1,none⟩=some (.int .i64 st.place):=((qa5 hk1).1 _ 1 (by simp) n0).trans (by simp);have hK1:=v7 (((Kept.refl rb w).alloc _).trans hk1);clear hk1)
  go_region_held3 (fun w'=>w'.cell? ⟨w.heap.size,0,none⟩=some (.int .i64 st.tk.kind)∧w'.cell? ⟨w.heap.size,1,none⟩=some (.int .i64 st.place)) (go_keep) (first|(go_at_call 197;refine (qf3 _ _).mono ?_;rintro e w' ⟨rfl,rfl⟩)|(go_at_call 241;refine (q9 HF _ (v6 s st) ((q9 H).stepped (q9 hK1) (q9 hr1)) hop).mono ?_;rintro e w2 ⟨hk2,h2⟩;rw [q9 HRES] at h2;obtain ⟨v2,rfl,hn2,hr2,ha2,ho2,hp2⟩:=h2;obtain ⟨vb,rfl⟩:=hn2.ptr;have p0':w2.cell? ⟨w.heap.size,0,none⟩=some (.int .i64 st.tk.kind):=((qa5 hk2).1 _ 0 hz1 n0).trans p0;have p1':w2.cell? ⟨w.heap.size,1,none⟩=some (.int .i64 st.place):=((qa5 hk2).1 _ 1 hz1 n0).trans p1;have hz2:w.heap.size<w2.heap.size:=Nat.lt_of_lt_of_le hz1 hk2.size;have hk2:=v7 hk2;have hn2:=v7 hn2;have hr2:=v7 hr2))
  all_goals (go_wp2_with fail)
  all_goals go_ret
  refine ⟨?_,_,rfl, ?_, ?_,ha2,ho2,Nat.le_trans (qf2 s st) hp2⟩
  ·exact ((((q9 hK1).trans ((Kept.refl rb w1).drew.trans (q9 hk2))).alloc _).alloc _)
  ·have:=IsNode.two (op:=qu8 st.tk.kind) (place:=st.place) ((q9 HL).kept ((q9 hK1).trans ((Kept.refl rb w1).drew.trans (q9 hk2)))) (q9 hn2) (by omega)
   exact this
  ·exact (((q9 hr2).allocd _ (by omega)).allocd _ (by simp;omega))
 | err en pl=>
  rw [qe5 hres]
  have HRES:=v7 hres
  clear hres
  go_enter Tryz.func146,Tryz.ntmps146
  go_wp2_with (go_at_call 54;refine (qc9 rb s st _ (q9 H).size (q9 H).fine.after ((q9 H).at'.allocd _ hlt) (by simp;omega) ((q9 H).err.alloc _)).mono ?_;rintro e w1 ⟨rfl,hr1,hk1⟩;have hr1:=v7 hr1;have hz1:w.heap.size<w1.heap.size:=(by have:=hk1.size;simp at this;omega);have p0:w1.cell? ⟨w.heap.size,0,none⟩=some (.int .i64 st.tk.kind):=((qa5 hk1).1 _ 0 (by simp) n0).trans (by simp);have p1:w1.cell? ⟨w.heap.size,1,none⟩=some (.int .i64 st.place):=((qa5 hk1).1 _ 1 (by simp) n0).trans (by simp);have hK1:=v7 (((Kept.refl rb w).alloc _).trans hk1);clear hk1)
  go_region_with (first|(go_at_call 197;refine (qf3 _ _).mono ?_;rintro e w' ⟨rfl,rfl⟩)|(go_at_call 241;refine (q9 HF _ (v6 s st) ((q9 H).stepped (q9 hK1) (q9 hr1)) hop).mono ?_;rintro e w2 ⟨hk2,h2⟩;rw [q9 HRES] at h2;subst h2;refine gone (w:=w2) ⟨rfl,(q9 hK1).trans ((Kept.refl rb w1).drew.trans hk2),rfl⟩ ?_))
  all_goals trivial
end
section
def qa7 (s:ByteArray) (f:St→Res) (ks:List Int):Nat→Ast→St→Res
 | 0,l,st=>.ok l st
 | n+1,l,st=>if ks.contains st.tk.kind then (match qc2 s f st l with
   | .ok l' st'=>qa7 s f ks n l' st'
   | .err en pl=>.err en pl) else .ok l st
def qe2 (s:ByteArray) (f:St→Res) (ks:List Int) (st:St):Res:=match f st with
 | .ok l st'=>qa7 s f ks (s.size+1) l st'
 | .err en pl=>.err en pl
theorem qh1 {s:ByteArray} {f:St→Res} {ks:List Int} {n:Nat} {l:Ast} {st:St} (h:ks.contains st.tk.kind=false):qa7 s f ks (n+1) l st=.ok l st:=by
 rw [qa7,if_neg (by rw [h];simp)]
theorem qf1 {s:ByteArray} {f:St→Res} {ks:List Int} {n:Nat} {l l':Ast} {st st':St} (h:ks.contains st.tk.kind=true) (hj:qc2 s f st l=.ok l' st'):qa7 s f ks (n+1) l st=qa7 s f ks n l' st':=by
 rw [qa7,if_pos h,hj]
theorem qg5 {s:ByteArray} {f:St→Res} {ks:List Int} {n:Nat} {l:Ast} {st:St} {en pl:Int} (h:ks.contains st.tk.kind=true) (hj:qc2 s f st l=.err en pl):qa7 s f ks (n+1) l st=.err en pl:=by
 rw [qa7,if_pos h,hj]
theorem qm4 {s:ByteArray} {f:St→Res} {ks:List Int} {st st':St} {l:Ast} (h:f st=.ok l st'):qe2 s f ks st=qa7 s f ks (s.size+1) l st':=by unfold qe2;rw [h]
theorem qj4 {s:ByteArray} {f:St→Res} {ks:List Int} {st:St} {en pl:Int} (h:f st=.err en pl):qe2 s f ks st=.err en pl:=by unfold qe2;rw [h]
def plOf (w:World) (rb:Nat):Nat:=match w.cell? ⟨rb,2,none⟩ with
 | some (.int _ n)=>n.toNat
 | _=>0
theorem qq0 {w:World} {rb:Nat} {s:ByteArray} {st:St} (h:RdAt w rb s st):plOf w rb=st.place:=by
 unfold plOf;rw [h.c2];simp
theorem KsAt.kept {rb b:Nat} {w w':World} {ks:List Int} (h:KsAt w b ks) (hk:Kept rb w w') (hb:b<w.heap.size) (hn:¬b=rb):KsAt w' b ks:=
 fun j k hj=>((qa5 hk).1 b j hb hn).trans (h j k hj)
theorem row_both (rb ob cap:Nat) (s:ByteArray) (op:Nat) (f:St→Res) (hf:qf6 102 rb s op f) (ks:List Int) (hks:ks.length≤8) (h0:ks.contains 0=false) (st:St) (w:World) (h:Ready rb s w st) (hop:st.op=op) (ho:KsAt w ob ks) (hob:ob<w.heap.size) (hne:¬ob=rb) :
  Calls Tryz.prog 101 #[.pointer (some ⟨rb,0,none⟩),.func (.func 102) #[.pointer (some ⟨rb,0,none⟩)] #[],.slice (some ⟨ob,0,none⟩) ks.length cap] w (Gives rb s w op st.place (qe2 s f ks st)):=by
 have H:=v7 h
 have HF:=v7 hf
 have HO:=v7 ho
 have hlt:=h.lt
 clear h hf ho
 cases hres:f st with
 | err en pl=>
  rw [qj4 hres]
  have HRES:=v7 hres
  clear hres
  go_enter Tryz.func101,Tryz.ntmps101
  go_wp2_with (go_at_call 102;refine (q9 HF _ st (q9 H) hop).mono ?_;rintro e w1 ⟨hk1,h1⟩;rw [q9 HRES] at h1;subst h1;simp only [qa1])
  exact ⟨rfl,hk1,rfl⟩
 | ok l0 st0=>
  rw [qm4 hres]
  have HRES:=v7 hres
  clear hres
  obtain ⟨R,hR⟩:∃r,qa7 s f ks (s.size+1) l0 st0=r:=⟨_,rfl⟩
  rw [hR]
  have HR:=v7 hR
  clear hR
  go_enter Tryz.func101,Tryz.ntmps101
  go_wp2_with (go_at_call 102;refine (q9 HF _ st (q9 H) hop).mono ?_;rintro e w1 ⟨hk1,h1⟩;rw [q9 HRES] at h1;obtain ⟨v1,rfl,hn1,hr1,hf1,ho1,hp1⟩:=h1;have hn1:=v7 hn1;have hr1:=v7 hr1;have hk1:=v7 hk1;have hf1:=v7 hf1)
  go_loopw [7] (fun v wr=>∃(n:Nat) (l:Ast) (sl:St),Hid (R=qa7 s f ks n l sl)∧s.size<n+sl.place∧IsNode rb wr v l∧Hid (Ready rb s wr sl)∧sl.op=op∧st.place≤sl.place∧Kept rb w wr) (fun v wr=>s.size+1 - plOf wr rb)
  case atStart=>exact ⟨s.size+1,l0,st0,v7 (q9 HR).symm,by omega,q9 hn1,v7 ((q9 H).kept (q9 hk1) (q9 hr1) (q9 hf1)),ho1,hp1,q9 hk1⟩
  case round=>
   obtain ⟨n,l,sl,hR,hn,hnode,hready,hopl,hpl,hk⟩:=hrel
   have hfine:=(q9 hready).fine
   have hf1':=hfine.place
   obtain ⟨lb,rfl⟩:=hnode.ptr
   obtain ⟨m,rfl⟩:∃m,n=m+1:=⟨n - 1,by omega⟩
   have HKS:=v7 ((q9 HO).kept hk hob hne)
   have HND:=v7 hnode
   have HK:=v7 hk
   have hltr:=(q9 hready).lt
   have HPL:=v7 (qq0 (q9 hready).at')
   obtain ⟨c0,c1,c2,c3,c4,c5,c6,fz⟩:=(q9 hready).at'
   clear hnode hk
   have CON:=fun w=>qm9 ob cap ks sl.tk.kind w hks
   cases hc:ks.contains sl.tk.kind with
   | false=>
    have HRR:Hid (R=.ok l sl):=v7 (by rw [q9 hR,qh1 hc])
    rw [hc] at CON
    have HCON:=v7 CON
    clear hc CON hR c0 c2 c3 c4 c5 c6 fz
    go_wp2_with (go_at_call 145;refine (q9 HCON _ (q9 HKS)).mono ?_;rintro e w' ⟨rfl,rfl⟩)
    go_ret
    rw [q9 HRR]
    exact ⟨q9 HK,_,rfl,q9 HND,(q9 hready).at',hfine,hopl,hpl⟩
   | true=>
    rw [hc] at CON
    have HCON:=v7 CON
    have hk0:sl.tk.kind≠0:=fun h=>by rw [h,h0] at hc;cases hc
    have hlong:=hfine.long hk0
    cases hj:qc2 s f sl l with
    | err en pl=>
     have HRR:Hid (R=.err en pl):=v7 (by rw [q9 hR,qg5 hc hj])
     have HJ:=v7 hj
     clear hc CON hR hj c0 c2 c3 c4 c5 c6 fz hk0
     go_wp2_with (first|(go_at_call 145;refine (q9 HCON _ (q9 HKS)).mono ?_;rintro e w' ⟨rfl,rfl⟩)|(go_at_call 146;refine (vb7 rb s op f (q9 HF) sl l _ _ (q9 hready) hopl (q9 HND)).mono ?_;rintro e w2 ⟨hk2,h2⟩;rw [q9 HJ] at h2;subst h2;simp only [qa1]))
     rw [q9 HRR]
     exact ⟨rfl,(q9 HK).trans hk2,rfl⟩
    | ok l2 st2=>
     have HRR:Hid (R=qa7 s f ks m l2 st2):=v7 (by rw [q9 hR,qf1 hc hj])
     have HJ:=v7 hj
     clear hc CON hR hj c0 c2 c3 c4 c5 c6 fz hk0
     go_wp2_with (first|(go_at_call 145;refine (q9 HCON _ (q9 HKS)).mono ?_;rintro e w' ⟨rfl,rfl⟩)|(go_at_call 146;refine (vb7 rb s op f (q9 HF) sl l _ _ (q9 hready) hopl (q9 HND)).mono ?_;rintro e w2 ⟨hk2,h2⟩;rw [q9 HJ] at h2;obtain ⟨v2,rfl,hn2,hr2,hf2,ho2,hp2⟩:=h2;have HPL2:=v7 (qq0 hr2);have hr2:=v7 hr2;have hn2:=v7 hn2;have hk2:=v7 hk2;have hf2:=v7 hf2))
     have hb2:=(q9 hf2).place
     go_roundw
     case rel=>exact ⟨m,l2,st2,HRR,by omega,q9 hn2,v7 ((q9 hready).kept (q9 hk2) (q9 hr2) (q9 hf2)),ho2,by omega,(q9 HK).trans (q9 hk2)⟩
     case measure=>rw [q9 HPL,q9 HPL2];omega
theorem jf3 (rb ob cap:Nat) (s:ByteArray) (op:Nat) (f:St→Res) (hf:qf6 147 rb s op f) (ks:List Int) (hks:ks.length≤8) (h0:ks.contains 0=false) (st:St) (w:World) (h:Ready rb s w st) (hop:st.op=op) (ho:KsAt w ob ks) (hob:ob<w.heap.size) (hne:¬ob=rb) :
  Calls Tryz.prog 101 #[.pointer (some ⟨rb,0,none⟩),.func (.func 147) #[.pointer (some ⟨rb,0,none⟩)] #[],.slice (some ⟨ob,0,none⟩) ks.length cap] w (Gives rb s w op st.place (qe2 s f ks st)):=by
 have H:=v7 h
 have HF:=v7 hf
 have HO:=v7 ho
 have hlt:=h.lt
 clear h hf ho
 cases hres:f st with
 | err en pl=>
  rw [qj4 hres]
  have HRES:=v7 hres
  clear hres
  go_enter Tryz.func101,Tryz.ntmps101
  go_wp2_with (go_at_call 147;refine (q9 HF _ st (q9 H) hop).mono ?_;rintro e w1 ⟨hk1,h1⟩;rw [q9 HRES] at h1;subst h1;simp only [qa1])
  exact ⟨rfl,hk1,rfl⟩
 | ok l0 st0=>
  rw [qm4 hres]
  have HRES:=v7 hres
  clear hres
  obtain ⟨R,hR⟩:∃r,qa7 s f ks (s.size+1) l0 st0=r:=⟨_,rfl⟩
  rw [hR]
  have HR:=v7 hR
  clear hR
  go_enter Tryz.func101,Tryz.ntmps101
  go_wp2_with (go_at_call 147;refine (q9 HF _ st (q9 H) hop).mono ?_;rintro e w1 ⟨hk1,h1⟩;rw [q9 HRES] at h1;obtain ⟨v1,rfl,hn1,hr1,hf1,ho1,hp1⟩:=h1;have hn1:=v7 hn1;have hr1:=v7 hr1;have hk1:=v7 hk1;have hf1:=v7 hf1)
  go_loopw [7] (fun v wr=>∃(n:Nat) (l:Ast) (sl:St),Hid (R=qa7 s f ks n l sl)∧s.size<n+sl.place∧IsNode rb wr v l∧Hid (Ready rb s wr sl)∧sl.op=op∧st.place≤sl.place∧Kept rb w wr) (fun v wr=>s.size+1 - plOf wr rb)
  case atStart=>exact ⟨s.size+1,l0,st0,v7 (q9 HR).symm,by omega,q9 hn1,v7 ((q9 H).kept (q9 hk1) (q9 hr1) (q9 hf1)),ho1,hp1,q9 hk1⟩
  case round=>
   obtain ⟨n,l,sl,hR,hn,hnode,hready,hopl,hpl,hk⟩:=hrel
   have hfine:=(q9 hready).fine
   have hf1':=hfine.place
   obtain ⟨lb,rfl⟩:=hnode.ptr
   obtain ⟨m,rfl⟩:∃m,n=m+1:=⟨n - 1,by omega⟩
   have HKS:=v7 ((q9 HO).kept hk hob hne)
   have HND:=v7 hnode
   have HK:=v7 hk
   have hltr:=(q9 hready).lt
   have HPL:=v7 (qq0 (q9 hready).at')
   obtain ⟨c0,c1,c2,c3,c4,c5,c6,fz⟩:=(q9 hready).at'
   clear hnode hk
   have CON:=fun w=>qm9 ob cap ks sl.tk.kind w hks
   cases hc:ks.contains sl.tk.kind with
   | false=>
    have HRR:Hid (R=.ok l sl):=v7 (by rw [q9 hR,qh1 hc])
    rw [hc] at CON
    have HCON:=v7 CON
    clear hc CON hR c0 c2 c3 c4 c5 c6 fz
    go_wp2_with (go_at_call 145;refine (q9 HCON _ (q9 HKS)).mono ?_;rintro e w' ⟨rfl,rfl⟩)
    go_ret
    rw [q9 HRR]
    exact ⟨q9 HK,_,rfl,q9 HND,(q9 hready).at',hfine,hopl,hpl⟩
   | true=>
    rw [hc] at CON
    have HCON:=v7 CON
    have hk0:sl.tk.kind≠0:=fun h=>by rw [h,h0] at hc;cases hc
    have hlong:=hfine.long hk0
    cases hj:qc2 s f sl l with
    | err en pl=>
     have HRR:Hid (R=.err en pl):=v7 (by rw [q9 hR,qg5 hc hj])
     have HJ:=v7 hj
     clear hc CON hR hj c0 c2 c3 c4 c5 c6 fz hk0
     go_wp2_with (first|(go_at_call 145;refine (q9 HCON _ (q9 HKS)).mono ?_;rintro e w' ⟨rfl,rfl⟩)|(go_at_call 146;refine (qw0 rb s op f (q9 HF) sl l _ _ (q9 hready) hopl (q9 HND)).mono ?_;rintro e w2 ⟨hk2,h2⟩;rw [q9 HJ] at h2;subst h2;simp only [qa1]))
     rw [q9 HRR]
     exact ⟨rfl,(q9 HK).trans hk2,rfl⟩
    | ok l2 st2=>
     have HRR:Hid (R=qa7 s f ks m l2 st2):=v7 (by rw [q9 hR,qf1 hc hj])
     have HJ:=v7 hj
     clear hc CON hR hj c0 c2 c3 c4 c5 c6 fz hk0
     go_wp2_with (first|(go_at_call 145;refine (q9 HCON _ (q9 HKS)).mono ?_;rintro e w' ⟨rfl,rfl⟩)|(go_at_call 146;refine (qw0 rb s op f (q9 HF) sl l _ _ (q9 hready) hopl (q9 HND)).mono ?_;rintro e w2 ⟨hk2,h2⟩;rw [q9 HJ] at h2;obtain ⟨v2,rfl,hn2,hr2,hf2,ho2,hp2⟩:=h2;have HPL2:=v7 (qq0 hr2);have hr2:=v7 hr2;have hn2:=v7 hn2;have hk2:=v7 hk2;have hf2:=v7 hf2))
     have hb2:=(q9 hf2).place
     go_roundw
     case rel=>exact ⟨m,l2,st2,HRR,by omega,q9 hn2,v7 ((q9 hready).kept (q9 hk2) (q9 hr2) (q9 hf2)),ho2,by omega,(q9 HK).trans (q9 hk2)⟩
     case measure=>rw [q9 HPL,q9 HPL2];omega
theorem vx1 (rb ob cap:Nat) (s:ByteArray) (op:Nat) (f:St→Res) (hf:qf6 266 rb s op f) (ks:List Int) (hks:ks.length≤8) (h0:ks.contains 0=false) (st:St) (w:World) (h:Ready rb s w st) (hop:st.op=op) (ho:KsAt w ob ks) (hob:ob<w.heap.size) (hne:¬ob=rb) :
  Calls Tryz.prog 101 #[.pointer (some ⟨rb,0,none⟩),.func (.func 266) #[.pointer (some ⟨rb,0,none⟩)] #[],.slice (some ⟨ob,0,none⟩) ks.length cap] w (Gives rb s w op st.place (qe2 s f ks st)):=by
 have H:=v7 h
 have HF:=v7 hf
 have HO:=v7 ho
 have hlt:=h.lt
 clear h hf ho
 cases hres:f st with
 | err en pl=>
  rw [qj4 hres]
  have HRES:=v7 hres
  clear hres
  go_enter Tryz.func101,Tryz.ntmps101
  go_wp2_with (go_at_call 266;refine (q9 HF _ st (q9 H) hop).mono ?_;rintro e w1 ⟨hk1,h1⟩;rw [q9 HRES] at h1;subst h1;simp only [qa1])
  exact ⟨rfl,hk1,rfl⟩
 | ok l0 st0=>
  rw [qm4 hres]
  have HRES:=v7 hres
  clear hres
  obtain ⟨R,hR⟩:∃r,qa7 s f ks (s.size+1) l0 st0=r:=⟨_,rfl⟩
  rw [hR]
  have HR:=v7 hR
  clear hR
  go_enter Tryz.func101,Tryz.ntmps101
  go_wp2_with (go_at_call 266;refine (q9 HF _ st (q9 H) hop).mono ?_;rintro e w1 ⟨hk1,h1⟩;rw [q9 HRES] at h1;obtain ⟨v1,rfl,hn1,hr1,hf1,ho1,hp1⟩:=h1;have hn1:=v7 hn1;have hr1:=v7 hr1;have hk1:=v7 hk1;have hf1:=v7 hf1)
  go_loopw [7] (fun v wr=>∃(n:Nat) (l:Ast) (sl:St),Hid (R=qa7 s f ks n l sl)∧s.size<n+sl.place∧IsNode rb wr v l∧Hid (Ready rb s wr sl)∧sl.op=op∧st.place≤sl.place∧Kept rb w wr) (fun v wr=>s.size+1 - plOf wr rb)
  case atStart=>exact ⟨s.size+1,l0,st0,v7 (q9 HR).symm,by omega,q9 hn1,v7 ((q9 H).kept (q9 hk1) (q9 hr1) (q9 hf1)),ho1,hp1,q9 hk1⟩
  case round=>
   obtain ⟨n,l,sl,hR,hn,hnode,hready,hopl,hpl,hk⟩:=hrel
   have hfine:=(q9 hready).fine
   have hf1':=hfine.place
   obtain ⟨lb,rfl⟩:=hnode.ptr
   obtain ⟨m,rfl⟩:∃m,n=m+1:=⟨n - 1,by omega⟩
   have HKS:=v7 ((q9 HO).kept hk hob hne)
   have HND:=v7 hnode
   have HK:=v7 hk
   have hltr:=(q9 hready).lt
   have HPL:=v7 (qq0 (q9 hready).at')
   obtain ⟨c0,c1,c2,c3,c4,c5,c6,fz⟩:=(q9 hready).at'
   clear hnode hk
   have CON:=fun w=>qm9 ob cap ks sl.tk.kind w hks
   cases hc:ks.contains sl.tk.kind with
   | false=>
    have HRR:Hid (R=.ok l sl):=v7 (by rw [q9 hR,qh1 hc])
    rw [hc] at CON
    have HCON:=v7 CON
    clear hc CON hR c0 c2 c3 c4 c5 c6 fz
    go_wp2_with (go_at_call 145;refine (q9 HCON _ (q9 HKS)).mono ?_;rintro e w' ⟨rfl,rfl⟩)
    go_ret
    rw [q9 HRR]
    exact ⟨q9 HK,_,rfl,q9 HND,(q9 hready).at',hfine,hopl,hpl⟩
   | true=>
    rw [hc] at CON
    have HCON:=v7 CON
    have hk0:sl.tk.kind≠0:=fun h=>by rw [h,h0] at hc;cases hc
    have hlong:=hfine.long hk0
    cases hj:qc2 s f sl l with
    | err en pl=>
     have HRR:Hid (R=.err en pl):=v7 (by rw [q9 hR,qg5 hc hj])
     have HJ:=v7 hj
     clear hc CON hR hj c0 c2 c3 c4 c5 c6 fz hk0
     go_wp2_with (first|(go_at_call 145;refine (q9 HCON _ (q9 HKS)).mono ?_;rintro e w' ⟨rfl,rfl⟩)|(go_at_call 146;refine (qu5 rb s op f (q9 HF) sl l _ _ (q9 hready) hopl (q9 HND)).mono ?_;rintro e w2 ⟨hk2,h2⟩;rw [q9 HJ] at h2;subst h2;simp only [qa1]))
     rw [q9 HRR]
     exact ⟨rfl,(q9 HK).trans hk2,rfl⟩
    | ok l2 st2=>
     have HRR:Hid (R=qa7 s f ks m l2 st2):=v7 (by rw [q9 hR,qf1 hc hj])
     have HJ:=v7 hj
     clear hc CON hR hj c0 c2 c3 c4 c5 c6 fz hk0
     go_wp2_with (first|(go_at_call 145;refine (q9 HCON _ (q9 HKS)).mono ?_;rintro e w' ⟨rfl,rfl⟩)|(go_at_call 146;refine (qu5 rb s op f (q9 HF) sl l _ _ (q9 hready) hopl (q9 HND)).mono ?_;rintro e w2 ⟨hk2,h2⟩;rw [q9 HJ] at h2;obtain ⟨v2,rfl,hn2,hr2,hf2,ho2,hp2⟩:=h2;have HPL2:=v7 (qq0 hr2);have hr2:=v7 hr2;have hn2:=v7 hn2;have hk2:=v7 hk2;have hf2:=v7 hf2))
     have hb2:=(q9 hf2).place
     go_roundw
     case rel=>exact ⟨m,l2,st2,HRR,by omega,q9 hn2,v7 ((q9 hready).kept (q9 hk2) (q9 hr2) (q9 hf2)),ho2,by omega,(q9 HK).trans (q9 hk2)⟩
     case measure=>rw [q9 HPL,q9 HPL2];omega
theorem jf4 (rb ob cap:Nat) (s:ByteArray) (op:Nat) (f:St→Res) (hf:qf6 301 rb s op f) (ks:List Int) (hks:ks.length≤8) (h0:ks.contains 0=false) (st:St) (w:World) (h:Ready rb s w st) (hop:st.op=op) (ho:KsAt w ob ks) (hob:ob<w.heap.size) (hne:¬ob=rb) :
  Calls Tryz.prog 101 #[.pointer (some ⟨rb,0,none⟩),.func (.func 301) #[.pointer (some ⟨rb,0,none⟩)] #[],.slice (some ⟨ob,0,none⟩) ks.length cap] w (Gives rb s w op st.place (qe2 s f ks st)):=by
 have H:=v7 h
 have HF:=v7 hf
 have HO:=v7 ho
 have hlt:=h.lt
 clear h hf ho
 cases hres:f st with
 | err en pl=>
  rw [qj4 hres]
  have HRES:=v7 hres
  clear hres
  go_enter Tryz.func101,Tryz.ntmps101
  go_wp2_with (go_at_call 301;refine (q9 HF _ st (q9 H) hop).mono ?_;rintro e w1 ⟨hk1,h1⟩;rw [q9 HRES] at h1;subst h1;simp only [qa1])
  exact ⟨rfl,hk1,rfl⟩
 | ok l0 st0=>
  rw [qm4 hres]
  have HRES:=v7 hres
  clear hres
  obtain ⟨R,hR⟩:∃r,qa7 s f ks (s.size+1) l0 st0=r:=⟨_,rfl⟩
  rw [hR]
  have HR:=v7 hR
  clear hR
  go_enter Tryz.func101,Tryz.ntmps101
  go_wp2_with (go_at_call 301;refine (q9 HF _ st (q9 H) hop).mono ?_;rintro e w1 ⟨hk1,h1⟩;rw [q9 HRES] at h1;obtain ⟨v1,rfl,hn1,hr1,hf1,ho1,hp1⟩:=h1;have hn1:=v7 hn1;have hr1:=v7 hr1;have hk1:=v7 hk1;have hf1:=v7 hf1)
  go_loopw [7] (fun v wr=>∃(n:Nat) (l:Ast) (sl:St),Hid (R=qa7 s f ks n l sl)∧s.size<n+sl.place∧IsNode rb wr v l∧Hid (Ready rb s wr sl)∧sl.op=op∧st.place≤sl.place∧Kept rb w wr) (fun v wr=>s.size+1 - plOf wr rb)
  case atStart=>exact ⟨s.size+1,l0,st0,v7 (q9 HR).symm,by omega,q9 hn1,v7 ((q9 H).kept (q9 hk1) (q9 hr1) (q9 hf1)),ho1,hp1,q9 hk1⟩
  case round=>
   obtain ⟨n,l,sl,hR,hn,hnode,hready,hopl,hpl,hk⟩:=hrel
   have hfine:=(q9 hready).fine
   have hf1':=hfine.place
   obtain ⟨lb,rfl⟩:=hnode.ptr
   obtain ⟨m,rfl⟩:∃m,n=m+1:=⟨n - 1,by omega⟩
   have HKS:=v7 ((q9 HO).kept hk hob hne)
   have HND:=v7 hnode
   have HK:=v7 hk
   have hltr:=(q9 hready).lt
   have HPL:=v7 (qq0 (q9 hready).at')
   obtain ⟨c0,c1,c2,c3,c4,c5,c6,fz⟩:=(q9 hready).at'
   clear hnode hk
   have CON:=fun w=>qm9 ob cap ks sl.tk.kind w hks
   cases hc:ks.contains sl.tk.kind with
   | false=>
    have HRR:Hid (R=.ok l sl):=v7 (by rw [q9 hR,qh1 hc])
    rw [hc] at CON
    have HCON:=v7 CON
    clear hc CON hR c0 c2 c3 c4 c5 c6 fz
    go_wp2_with (go_at_call 145;refine (q9 HCON _ (q9 HKS)).mono ?_;rintro e w' ⟨rfl,rfl⟩)
    go_ret
    rw [q9 HRR]
    exact ⟨q9 HK,_,rfl,q9 HND,(q9 hready).at',hfine,hopl,hpl⟩
   | true=>
    rw [hc] at CON
    have HCON:=v7 CON
    have hk0:sl.tk.kind≠0:=fun h=>by rw [h,h0] at hc;cases hc
    have hlong:=hfine.long hk0
    cases hj:qc2 s f sl l with
    | err en pl=>
     have HRR:Hid (R=.err en pl):=v7 (by rw [q9 hR,qg5 hc hj])
     have HJ:=v7 hj
     clear hc CON hR hj c0 c2 c3 c4 c5 c6 fz hk0
     go_wp2_with (first|(go_at_call 145;refine (q9 HCON _ (q9 HKS)).mono ?_;rintro e w' ⟨rfl,rfl⟩)|(go_at_call 146;refine (qw1 rb s op f (q9 HF) sl l _ _ (q9 hready) hopl (q9 HND)).mono ?_;rintro e w2 ⟨hk2,h2⟩;rw [q9 HJ] at h2;subst h2;simp only [qa1]))
     rw [q9 HRR]
     exact ⟨rfl,(q9 HK).trans hk2,rfl⟩
    | ok l2 st2=>
     have HRR:Hid (R=qa7 s f ks m l2 st2):=v7 (by rw [q9 hR,qf1 hc hj])
     have HJ:=v7 hj
     clear hc CON hR hj c0 c2 c3 c4 c5 c6 fz hk0
     go_wp2_with (first|(go_at_call 145;refine (q9 HCON _ (q9 HKS)).mono ?_;rintro e w' ⟨rfl,rfl⟩)|(go_at_call 146;refine (qw1 rb s op f (q9 HF) sl l _ _ (q9 hready) hopl (q9 HND)).mono ?_;rintro e w2 ⟨hk2,h2⟩;rw [q9 HJ] at h2;obtain ⟨v2,rfl,hn2,hr2,hf2,ho2,hp2⟩:=h2;have HPL2:=v7 (qq0 hr2);have hr2:=v7 hr2;have hn2:=v7 hn2;have hk2:=v7 hk2;have hf2:=v7 hf2))
     have hb2:=(q9 hf2).place
     go_roundw
     case rel=>exact ⟨m,l2,st2,HRR,by omega,q9 hn2,v7 ((q9 hready).kept (q9 hk2) (q9 hr2) (q9 hf2)),ho2,by omega,(q9 HK).trans (q9 hk2)⟩
     case measure=>rw [q9 HPL,q9 HPL2];omega
end
section
theorem Ready.allocd {rb:Nat} {s:ByteArray} {w:World} {st:St} (h:Ready rb s w st) (o:Obj):Ready rb s (w.alloc o) st:=
 h.kept ((Kept.refl rb w).alloc o) (h.at'.allocd o h.lt) h.fine
theorem Gives.from {rb:Nat} {s:ByteArray} {w w1:World} {op lo:Nat} {r:Res} {e:Ending} {w':World} (hk:Kept rb w w1) (h:Gives rb s w1 op lo r e w'):Gives rb s w op lo r e w':=⟨hk.trans h.1,h.2⟩
theorem Gives.cases {rb:Nat} {s:ByteArray} {w:World} {op lo:Nat} {r:Res} {e:Ending} {w':World} (h:Gives rb s w op lo r e w'):(∃v,e=.returned v∧Gives rb s w op lo r (.returned v) w')∨(∃en pl,e=qa1 en pl∧Gives rb s w op lo r (qa1 en pl) w'):=by
 cases r with
 | ok t st=>obtain ⟨hk,v,rfl,h2⟩:=h;exact .inl ⟨v,rfl,hk,v,rfl,h2⟩
 | err en pl=>obtain ⟨hk,rfl⟩:=h;exact .inr ⟨en,pl,rfl,hk,rfl⟩
theorem vn1 (rb:Nat) (s:ByteArray) (op:Nat) (f:St→Res) (hf:qf6 102 rb s op f):qf6 55 rb s op (qe2 s f [6]):=by
 intro w st h hop
 have H:=v7 h
 have HF:=v7 hf
 have hmf:∀(fn:Fn) (first cap:Array Value) (w:World),(Instr.makeFunc fn first cap).run Tryz.prog w=.ok (.func fn first cap) w:=fun _ _ _ _=>rfl
 have hlt:=h.lt
 clear h hf
 go_enter Tryz.func55,Tryz.ntmps55
 go_wp2_with fail
 refine (row_both rb w.heap.size 1 s op f (q9 HF) [6] (by decide) (by decide) st _ ((q9 H).allocd _) hop ?ks (by simp) (by omega)).mono ?_
 case ks=>
  intro j k hj
  match j,hj with
  | 0,hj=>simp at hj;subst hj;simp
 rintro e w' hg
 rcases hg.cases with ⟨v,rfl,hg⟩|⟨en,pl,rfl,hg⟩
 ·have HG:=v7 (hg.from ((Kept.refl rb w).alloc _))
  clear hg
  go_wp2_with fail
  go_ret
  exact q9 HG
 ·exact ⟨rfl,hg.from ((Kept.refl rb w).alloc _)⟩
theorem jc0 (rb:Nat) (s:ByteArray) (op:Nat) (f:St→Res) (hf:qf6 147 rb s op f):qf6 102 rb s op (qe2 s f [5]):=by
 intro w st h hop
 have H:=v7 h
 have HF:=v7 hf
 have hmf:∀(fn:Fn) (first cap:Array Value) (w:World),(Instr.makeFunc fn first cap).run Tryz.prog w=.ok (.func fn first cap) w:=fun _ _ _ _=>rfl
 have hlt:=h.lt
 clear h hf
 go_enter Tryz.func102,Tryz.ntmps102
 go_wp2_with fail
 refine (jf3 rb w.heap.size 1 s op f (q9 HF) [5] (by decide) (by decide) st _ ((q9 H).allocd _) hop ?ks (by simp) (by omega)).mono ?_
 case ks=>
  intro j k hj
  match j,hj with
  | 0,hj=>simp at hj;subst hj;simp
 rintro e w' hg
 rcases hg.cases with ⟨v,rfl,hg⟩|⟨en,pl,rfl,hg⟩
 ·have HG:=v7 (hg.from ((Kept.refl rb w).alloc _))
  clear hg
  go_wp2_with fail
  go_ret
  exact q9 HG
 ·exact ⟨rfl,hg.from ((Kept.refl rb w).alloc _)⟩
theorem sum_reads (rb:Nat) (s:ByteArray) (op:Nat) (f:St→Res) (hf:qf6 266 rb s op f):qf6 241 rb s op (qe2 s f [22,23]):=by
 intro w st h hop
 have H:=v7 h
 have HF:=v7 hf
 have hmf:∀(fn:Fn) (first cap:Array Value) (w:World),(Instr.makeFunc fn first cap).run Tryz.prog w=.ok (.func fn first cap) w:=fun _ _ _ _=>rfl
 have hlt:=h.lt
 clear h hf
 go_enter Tryz.func241,Tryz.ntmps241
 go_wp2_with fail
 refine (vx1 rb w.heap.size 2 s op f (q9 HF) [22,23] (by decide) (by decide) st _ ((q9 H).allocd _) hop ?ks (by simp) (by omega)).mono ?_
 case ks=>
  intro j k hj
  match j,hj with
  | 0,hj=>simp at hj;subst hj;simp
  | 1,hj=>simp at hj;subst hj;simp
 rintro e w' hg
 rcases hg.cases with ⟨v,rfl,hg⟩|⟨en,pl,rfl,hg⟩
 ·have HG:=v7 (hg.from ((Kept.refl rb w).alloc _))
  clear hg
  go_wp2_with fail
  go_ret
  exact q9 HG
 ·exact ⟨rfl,hg.from ((Kept.refl rb w).alloc _)⟩
theorem vi5 (rb:Nat) (s:ByteArray) (op:Nat) (f:St→Res) (hf:qf6 301 rb s op f):qf6 266 rb s op (qe2 s f [24,25]):=by
 intro w st h hop
 have H:=v7 h
 have HF:=v7 hf
 have hmf:∀(fn:Fn) (first cap:Array Value) (w:World),(Instr.makeFunc fn first cap).run Tryz.prog w=.ok (.func fn first cap) w:=fun _ _ _ _=>rfl
 have hlt:=h.lt
 clear h hf
 go_enter Tryz.func266,Tryz.ntmps266
 go_wp2_with fail
 refine (jf4 rb w.heap.size 2 s op f (q9 HF) [24,25] (by decide) (by decide) st _ ((q9 H).allocd _) hop ?ks (by simp) (by omega)).mono ?_
 case ks=>
  intro j k hj
  match j,hj with
  | 0,hj=>simp at hj;subst hj;simp
  | 1,hj=>simp at hj;subst hj;simp
 rintro e w' hg
 rcases hg.cases with ⟨v,rfl,hg⟩|⟨en,pl,rfl,hg⟩
 ·have HG:=v7 (hg.from ((Kept.refl rb w).alloc _))
  clear hg
  go_wp2_with fail
  go_ret
  exact q9 HG
 ·exact ⟨rfl,hg.from ((Kept.refl rb w).alloc _)⟩
end
section
def qj8 (s:ByteArray) (st:St):St:={ v6 s st with op:=st.op+1 }
def qd2 (s:ByteArray) (f:St→Res) (st:St):Res:=if st.op=12 then .err 3 st.place else match f (qj8 s st) with
 | .ok t st'=>if st'.tk.kind=27 then .ok t { v6 s st' with op:=st.op } else .err 2 st'.place
 | .err en pl=>.err en pl
theorem Fine.op {s:ByteArray} {st:St} (h:Fine s st) (n:Nat):Fine s { st with op:=n }:=⟨h.place,h.after,h.long⟩
theorem Fine.next {s:ByteArray} {st:St} (h:Fine s st):Fine s (v6 s st):=x8 s st h.after
theorem Fine.le {s:ByteArray} {st:St} (h:Fine s st) (hk:st.tk.kind≠0):st.place≤(v6 s st).place:=Nat.le_trans (Nat.le_of_lt (h.long hk)) (qf2 s st)
theorem vv4 (rb:Nat) (s:ByteArray) (op:Nat) (hop:op≤12) (f:St→Res) (hf:op<12→qf6 55 rb s (op+1) f) (w:World) (st:St) (h:Ready rb s w st) (ho:st.op=op) (hk0:st.tk.kind≠0) :
  Calls Tryz.prog 331 #[.pointer (some ⟨rb,0,none⟩)] w (Gives rb s w op st.place (qd2 s f st)):=by
 have H:=v7 h
 have hlt:=h.lt
 by_cases h12:st.op=12
 ·rw [qd2,if_pos h12]
  have H12:=v7 h12
  clear h hf h12
  go_enter Tryz.func331,Tryz.ntmps331
  go_wp2_with (go_at_call 199;refine (vg7 rb s st _ (q9 H).at' hlt (q9 H12)).mono ?_;rintro e w1 ⟨rfl,hk1⟩;simp only [qa1])
  exact ⟨rfl,hk1,rfl⟩
 ·have hlt12:op<12:=by omega
  have HF:=v7 (hf hlt12)
  have hle:=h.fine.le hk0
  rw [qd2,if_neg h12]
  have HS:Hid (st.op<12):=v7 (by omega)
  have READY:∀w1,Kept rb w w1→RdAt w1 rb s (qj8 s st)→Ready rb s w1 (qj8 s st):=fun w1 hk hr=>h.kept hk hr (h.fine.next.op _)
  have HREADY:=v7 READY
  have hin:(qj8 s st).op=op+1:=by show st.op+1=op+1;omega
  have HIN:=v7 hin
  clear h hf h12 READY hin
  cases hres:f (qj8 s st) with
  | err en pl=>
   have HRES:=v7 hres
   clear hres
   go_enter Tryz.func331,Tryz.ntmps331
   go_wp2_with (first|(go_at_call 199;refine (qr2 rb s st _ (q9 H).size (q9 H).fine.after (q9 H).at' hlt (q9 H).err (q9 H).glob (q9 HS)).mono ?_;rintro e w1 ⟨rfl,hr1,hk1⟩;have hr1:=v7 hr1;have hk1:=v7 hk1;simp only [tkV])|(go_at_call 55;refine (q9 HF _ (qj8 s st) (q9 HREADY _ (q9 hk1) (q9 hr1)) (q9 HIN)).mono ?_;rintro e w2 ⟨hk2,h2⟩;rw [q9 HRES] at h2;subst h2;simp only [qa1]))
   exact ⟨rfl,(q9 hk1).trans hk2,rfl⟩
  | ok t st2=>
   have HRES:=v7 hres
   clear hres
   by_cases h27:st2.tk.kind=27
   ·simp only [if_pos h27]
    have H27:=v7 h27
    have Hne:Hid (st2.tk.kind≠0):=v7 (by rw [h27];decide)
    clear h27
    go_enter Tryz.func331,Tryz.ntmps331
    go_wp2_with (first|(go_at_call 199;refine (qr2 rb s st _ (q9 H).size (q9 H).fine.after (q9 H).at' hlt (q9 H).err (q9 H).glob (q9 HS)).mono ?_;rintro e w1 ⟨rfl,hr1,hk1⟩;have hr1:=v7 hr1;have hk1:=v7 hk1;simp only [tkV])|(go_at_call 55;refine (q9 HF _ (qj8 s st) (q9 HREADY _ (q9 hk1) (q9 hr1)) (q9 HIN)).mono ?_;rintro e w2 ⟨hk2,h2⟩;rw [q9 HRES] at h2;obtain ⟨v2,rfl,hn2,hr2,hf2,ho2,hp2⟩:=h2;obtain ⟨vb,rfl⟩:=hn2.ptr;have hR2:=v7 ((q9 H).kept ((q9 hk1).trans hk2) hr2 hf2);have hn2:=v7 hn2;have hk2:=v7 hk2;have hf2:=v7 hf2;have ho2:=v7 ho2;clear hr2)|(go_at_call 56;refine (qc3 rb s st2 27 _ (q9 hR2).size (q9 hf2).after (q9 hR2).at' (q9 hR2).lt (q9 hR2).err (q9 H27)).mono ?_;rintro e w3 ⟨rfl,hr3,hk3⟩;have d6:w3.cell? ⟨rb,6,none⟩=some (.int .i64 ((op:Int)+1)):=(by rw [hr3.c6,stepSt_op,q9 ho2];simp);have dz:=hr3.fz;have hr3:=v7 hr3;have hk3:=v7 hk3;simp only [tkV]))
    go_ret
    refine ⟨(((q9 hk1).trans (q9 hk2)).trans (q9 hk3)).setCell 6 _,_,rfl,(q9 hn2).kept ((q9 hk3).setCell 6 _),(q9 hr3).setOp st.op _ (by omega),(q9 hf2).next.op _,ho, ?_⟩
    have h1:=(q9 hf2).le (q9 Hne)
    have h2:(qj8 s st).place=(v6 s st).place:=rfl
    show st.place≤(v6 s st2).place
    omega
   ·simp only [if_neg h27]
    have H27:=v7 h27
    clear h27
    go_enter Tryz.func331,Tryz.ntmps331
    go_wp2_with (first|(go_at_call 199;refine (qr2 rb s st _ (q9 H).size (q9 H).fine.after (q9 H).at' hlt (q9 H).err (q9 H).glob (q9 HS)).mono ?_;rintro e w1 ⟨rfl,hr1,hk1⟩;have hr1:=v7 hr1;have hk1:=v7 hk1;simp only [tkV])|(go_at_call 55;refine (q9 HF _ (qj8 s st) (q9 HREADY _ (q9 hk1) (q9 hr1)) (q9 HIN)).mono ?_;rintro e w2 ⟨hk2,h2⟩;rw [q9 HRES] at h2;obtain ⟨v2,rfl,hn2,hr2,hf2,ho2,hp2⟩:=h2;obtain ⟨vb,rfl⟩:=hn2.ptr;have hR2:=v7 ((q9 H).kept ((q9 hk1).trans hk2) hr2 hf2);have hn2:=v7 hn2;have hk2:=v7 hk2;have hf2:=v7 hf2;have ho2:=v7 ho2;clear hr2)|(go_at_call 56;refine (qk6 rb s st2 27 _ (q9 hR2).at' (q9 hR2).lt (q9 H27)).mono ?_;rintro e w3 ⟨rfl,hk3⟩;simp only [qa1]))
    exact ⟨rfl,((q9 hk1).trans (q9 hk2)).trans hk3,rfl⟩
theorem IsNode.one {rb:Nat} {w:World} {l:Ast} {lv:Value} (hl:IsNode rb w lv l) (hlt:rb<w.heap.size) (op place:Int) :
  IsNode rb ((w.alloc (.cells #[lv] 67)).alloc (.cells #[.int .i64 op,.int .i64 place,.slice (some ⟨w.heap.size,0,none⟩) 1 1,.int .i64 0,.string ⟨#[]⟩,.string ⟨#[]⟩,.slice none 0 0] 102))
   (.pointer (some ⟨w.heap.size+1,0,none⟩)) (.un ⟨op,place,0,[],[],[]⟩ l):=by
 have hk:Kept rb w ((w.alloc (.cells #[lv] 67)).alloc (.cells #[.int .i64 op,.int .i64 place,.slice (some ⟨w.heap.size,0,none⟩) 1 1,.int .i64 0,.string ⟨#[]⟩,.string ⟨#[]⟩,.slice none 0 0] 102)):=((Kept.refl rb w).alloc _).alloc _
 refine ⟨w.heap.size+1,w.heap.size,lv,rfl,⟨by omega,by simp,by simp,by simp,by simp,by simp,by simp [BS],by simp [BS],.slice none 0 0,by simp,.inl ⟨rfl,rfl⟩⟩,hlt,by simp;omega, ?_,hl.kept hk⟩
 rw [World.cell?_alloc_past _ _ _ (by simp),World.cell?_alloc_at _ _ _ _ rfl];rfl
theorem qt8 (rb:Nat) (x:Ast) (xv:Value) (place:Int) (w:World) (hx:IsNode rb w xv x) (hlt:rb<w.heap.size) :
  Calls Tryz.prog 200 #[xv,.int .i64 place] w fun e w'=>(∃v,e=.returned v∧IsNode rb w' v (.un ⟨5,place,0,[],[],[]⟩ x))∧Below w.heap.size w w':=by
 obtain ⟨b,rfl⟩:=hx.ptr
 have HX:=v7 hx
 clear hx
 go_enter Tryz.func200,Tryz.ntmps200
 go_wp2_with fail
 go_ret
 exact ⟨⟨_,rfl,(q9 HX).one hlt 5 place⟩,qb2 _ _ _⟩
end
section
theorem Kept.grown {rb:Nat} {a w w':World} {row:Option Nat} (h:Kept rb a w) (hg:w.grownBy w' row) (hrow:∀k,row=some k→a.heap.size≤k):Kept rb a w':=
 ⟨hg.os.trans h.os,hg.tape.trans h.tape,hg.output.trans h.output,Nat.le_trans h.size hg.size,fun k hk hn=>(hg.block k (Nat.lt_of_lt_of_le hk h.size) (fun e=>by have:=hrow k e.symm;omega)).trans (h.block k hk hn)⟩
theorem RdAt.same {w w':World} {rb:Nat} {s:ByteArray} {st:St} (h:RdAt w rb s st) (hb:w'.heap[rb]?=w.heap[rb]?):RdAt w' rb s st:=by
 have hc:∀j,w'.cell? ⟨rb,j,none⟩=w.cell? ⟨rb,j,none⟩:=fun j=>World.cell?_of_block (w:=w) (w':=w') (a:=⟨rb,j,none⟩) hb
 have hf:∀j,w'.frozen? ⟨rb,j,none⟩=w.frozen? ⟨rb,j,none⟩:=fun j=>World.frozen?_of_block (w:=w) (w':=w') (a:=⟨rb,j,none⟩) hb
 exact ⟨(hc 0).trans h.c0,(hc 1).trans h.c1,(hc 2).trans h.c2,(hc 3).trans h.c3,(hc 4).trans h.c4,(hc 5).trans h.c5,(hc 6).trans h.c6,fun j=>(hf j).trans (h.fz j)⟩
theorem RdAt.grown {w w':World} {rb:Nat} {s:ByteArray} {st:St} {row:Option Nat} (h:RdAt w rb s st) (hg:w.grownBy w' row) (hlt:rb<w.heap.size) (hrow:∀k,row=some k→rb<k):RdAt w' rb s st:=
 h.same (hg.block rb hlt (fun e=>by have:=hrow rb e.symm;omega))
theorem vi3 {rb base e size n:Nat} {w w':World} {v:Value} {xs:List Value} (h:w.ownsRow base e size v n xs) (hk:Kept rb w w') (hb:rb<base):w'.ownsRow base e size v n xs:=by
 refine ⟨h.1, ?_⟩
 rcases h.2 with hn|⟨g,cap,cur,rfl,hbg,hgg,rest⟩
 ·exact .inl hn
 ·refine .inr ⟨g,cap,cur,rfl,hbg, ?_,rest⟩
  rw [hk.block g (Array.getElem?_eq_some_iff.1 hgg).1 (by omega)]
  exact hgg
def x9 (ts:List (List UInt8)):List Value:=ts.map fun t=>.string (BS t)
theorem TextsAt.of_row {rb base e:Nat} {w:World} {v:Value} {ts:List (List UInt8)} (h:w.ownsRow base e 1 v ts.length (x9 ts)) (hb:rb<base):TextsAt rb w v ts:=by
 have h0:=h
 rcases h.2 with ⟨hv,hn⟩|⟨g,cap,cur,rfl,hbg,hgg,_⟩
 ·exact .inl ⟨List.eq_nil_of_length_eq_zero hn,hv⟩
 ·refine .inr ⟨g,cap,rfl,by omega,(Array.getElem?_eq_some_iff.1 hgg).1,fun j t ht=>?_⟩
  have:=h0.cells (g:=g) rfl j (.string (BS t)) (by simp [x9,ht])
  have hadd:(⟨g,0,none⟩:Addr).add j=⟨g,j,none⟩:=by unfold Addr.add;split<;>simp_all
  rwa [hadd] at this
theorem IsNode.texted {rb:Nat} {w:World} {l:Ast} {lv tv:Value} {ts:List (List UInt8)} (hl:IsNode rb w lv l) (hlt:rb<w.heap.size) (ht:TextsAt rb w tv ts) (op place:Int) (str esc:List UInt8) :
  IsNode rb ((w.alloc (.cells #[lv] 67)).alloc (.cells #[.int .i64 op,.int .i64 place,.slice (some ⟨w.heap.size,0,none⟩) 1 1,.int .i64 0,.string (BS str),.string (BS esc),tv] 102))
   (.pointer (some ⟨w.heap.size+1,0,none⟩)) (.un ⟨op,place,0,str,esc,ts⟩ l):=by
 have hk:Kept rb w ((w.alloc (.cells #[lv] 67)).alloc (.cells #[.int .i64 op,.int .i64 place,.slice (some ⟨w.heap.size,0,none⟩) 1 1,.int .i64 0,.string (BS str),.string (BS esc),tv] 102)):=((Kept.refl rb w).alloc _).alloc _
 refine ⟨w.heap.size+1,w.heap.size,lv,rfl,⟨by omega,by simp,by simp,by simp,by simp,by simp,by simp,by simp,tv,by simp,ht.kept hk⟩,hlt,by simp;omega, ?_,hl.kept hk⟩
 rw [World.cell?_alloc_past _ _ _ (by simp),World.cell?_alloc_at _ _ _ _ rfl];rfl
theorem Fine.lt {s:ByteArray} {st:St} (h:Fine s st) (hk:st.tk.kind≠0):st.place<(v6 s st).place:=Nat.lt_of_lt_of_le (h.long hk) (qf2 s st)
theorem vn5 (k p n:Int) (b:ByteArray) (w:World):(Instr.field 91 (.agg #[.int .i64 k,.int .i64 p,.int .i64 n,.string b]) 3).run Tryz.prog w=.ok (.string b) w:=by kernel_rfl
def qg1 (s:ByteArray) (l:Ast) (pl:Nat):Nat→List (List UInt8)→St→Res
 | 0,_,_=>.err 0 0
 | n+1,ts,st=>if st.tk.kind=28 then (if (v6 s st).tk.kind=4 then qg1 s l pl n (ts++[(v6 s st).tk.str]) (v6 s (v6 s st)) else .err 2 (v6 s st).place)
   else if st.tk.kind=27 then .ok (.un ⟨21,pl,0,[],[],ts⟩ l) (v6 s st) else .err 2 st.place
def qh7 (s:ByteArray) (l:Ast) (st:St):Res:=
 if (v6 s st).tk.kind=26 then (if (v6 s (v6 s st)).tk.kind=4 then qg1 s l st.place (s.size+1) [(v6 s (v6 s st)).tk.str] (v6 s (v6 s (v6 s st))) else .err 2 (v6 s (v6 s st)).place)
 else .err 2 (v6 s st).place
theorem vb2 {s:ByteArray} {l:Ast} {pl n:Nat} {ts:List (List UInt8)} {st:St} (h:st.tk.kind=28) (h4:(v6 s st).tk.kind=4):qg1 s l pl (n+1) ts st=qg1 s l pl n (ts++[(v6 s st).tk.str]) (v6 s (v6 s st)):=by rw [qg1,if_pos h,if_pos h4]
theorem ve7 {s:ByteArray} {l:Ast} {pl n:Nat} {ts:List (List UInt8)} {st:St} (h:st.tk.kind=28) (h4:¬(v6 s st).tk.kind=4):qg1 s l pl (n+1) ts st=.err 2 (v6 s st).place:=by rw [qg1,if_pos h,if_neg h4]
theorem ve8 {s:ByteArray} {l:Ast} {pl n:Nat} {ts:List (List UInt8)} {st:St} (h:¬st.tk.kind=28) (h4:st.tk.kind=27):qg1 s l pl (n+1) ts st=.ok (.un ⟨21,pl,0,[],[],ts⟩ l) (v6 s st):=by rw [qg1,if_neg h,if_pos h4]
theorem vb3 {s:ByteArray} {l:Ast} {pl n:Nat} {ts:List (List UInt8)} {st:St} (h:¬st.tk.kind=28) (h4:¬st.tk.kind=27):qg1 s l pl (n+1) ts st=.err 2 st.place:=by rw [qg1,if_neg h,if_neg h4]
theorem textRow (w:World) (base:Nat) (hb:base≤w.heap.size) (t:List UInt8):(w.alloc (.cells #[.string (BS t)] 9)).ownsRow base 9 1 (.slice (some ⟨w.heap.size,0,none⟩) 1 1) [t].length (x9 [t]):=
 ⟨rfl,.inr ⟨w.heap.size,1,#[.string (BS t)],rfl,hb,heap_alloc_new w _,Nat.le_refl _,by decide,rfl,rfl⟩⟩
end
section
def qd4 (s:ByteArray) (f:St→Res) (o:Int) (st:St):Res:=if st.op=12 then .err 3 st.place else match f (qj8 s st) with
 | .ok x st'=>.ok (.un ⟨o,st.place,0,[],[],[]⟩ x) { st' with op:=st.op }
 | .err en pl=>.err en pl
theorem vf6 (rb:Nat) (s:ByteArray) (op:Nat) (hop:op≤12) (f:St→Res) (hf:op<12→qf6 301 rb s (op+1) f) (o:Int) (w:World) (st:St) (h:Ready rb s w st) (ho:st.op=op) (hk0:st.tk.kind≠0) :
  Calls Tryz.prog 330 #[.pointer (some ⟨rb,0,none⟩),.int .i64 o] w (Gives rb s w op st.place (qd4 s f o st)):=by
 have H:=v7 h
 have hlt:=h.lt
 by_cases h12:st.op=12
 ·rw [qd4,if_pos h12]
  have H12:=v7 h12
  clear h hf h12
  go_enter Tryz.func330,Tryz.ntmps330
  go_wp2_with (go_at_call 199;refine (vg7 rb s st _ (q9 H).at' hlt (q9 H12)).mono ?_;rintro e w1 ⟨rfl,hk1⟩;simp only [qa1])
  exact ⟨rfl,hk1,rfl⟩
 ·have hlt12:op<12:=by omega
  have HF:=v7 (hf hlt12)
  have hle:=h.fine.le hk0
  rw [qd4,if_neg h12]
  have HS:Hid (st.op<12):=v7 (by omega)
  have READY:∀w1,Kept rb w w1→RdAt w1 rb s (qj8 s st)→Ready rb s w1 (qj8 s st):=fun w1 hk hr=>h.kept hk hr (h.fine.next.op _)
  have HREADY:=v7 READY
  have hin:(qj8 s st).op=op+1:=by show st.op+1=op+1;omega
  have HIN:=v7 hin
  clear h hf h12 READY hin
  cases hres:f (qj8 s st) with
  | err en pl=>
   have HRES:=v7 hres
   clear hres
   go_enter Tryz.func330,Tryz.ntmps330
   go_wp2_with (first|(go_at_call 199;refine (qr2 rb s st _ (q9 H).size (q9 H).fine.after (q9 H).at' hlt (q9 H).err (q9 H).glob (q9 HS)).mono ?_;rintro e w1 ⟨rfl,hr1,hk1⟩;have hr1:=v7 hr1;have hk1:=v7 hk1;simp only [tkV])|(go_at_call 301;refine (q9 HF _ (qj8 s st) ((q9 HREADY _ (q9 hk1) (q9 hr1)).allocd _) (q9 HIN)).mono ?_;rintro e w2 ⟨hk2,h2⟩;rw [q9 HRES] at h2;subst h2;simp only [qa1]))
   exact ⟨rfl,((q9 hk1).alloc _).trans hk2,rfl⟩
  | ok x st2=>
   have HRES:=v7 hres
   clear hres
   go_enter Tryz.func330,Tryz.ntmps330
   go_wp2_with (first|(go_at_call 199;refine (qr2 rb s st _ (q9 H).size (q9 H).fine.after (q9 H).at' hlt (q9 H).err (q9 H).glob (q9 HS)).mono ?_;rintro e w1 ⟨rfl,hr1,hk1⟩;have hz1:=hk1.size;have hr1:=v7 hr1;have hk1:=v7 hk1;have n1:¬w1.heap.size=rb:=(by omega);have n2:¬rb=w1.heap.size:=(by omega);simp only [tkV])|(go_at_call 301;refine (q9 HF _ (qj8 s st) ((q9 HREADY _ (q9 hk1) (q9 hr1)).allocd _) (q9 HIN)).mono ?_;rintro e w2 ⟨hk2,h2⟩;rw [q9 HRES] at h2;obtain ⟨v2,rfl,hn2,hr2,hf2,ho2,hp2⟩:=h2;obtain ⟨vb,rfl⟩:=hn2.ptr;have hz2:w1.heap.size<w2.heap.size:=(by have:=hk2.size;simp at this;omega);have q1:w2.cell? ⟨w1.heap.size,1,none⟩=some (.int .i64 st.place):=((qa5 hk2).1 _ 1 (by simp) n1).trans (by simp);have d6:w2.cell? ⟨rb,6,none⟩=some (.int .i64 ((op:Int)+1)):=(by rw [hr2.c6,ho2];simp);have dz:=hr2.fz;have hr2:=v7 hr2;have hn2:=v7 hn2;have hk2:=v7 hk2;have hf2:=v7 hf2;have ho2:=v7 ho2))
   go_ret
   have hlt2:rb<w2.heap.size:=by omega
   refine ⟨((((((q9 hk1).alloc _).trans (q9 hk2)).setCell 6 _).alloc _).alloc _),_,rfl, ?_, ?_,(q9 hf2).op _,ho, ?_⟩
   ·have:=IsNode.one ((q9 hn2).kept ((Kept.refl rb w2).setCell 6 (.int .i64 (op:Int)))) (by rw [qa8];exact hlt2) o st.place
    simpa using this
   ·exact (((q9 hr2).setOp st.op _ (by omega)).allocd _ (by simpa using hlt2)).allocd _ (by simp;omega)
   ·have h2:(qj8 s st).place=(v6 s st).place:=rfl
    show st.place≤st2.place
    omega
end
section
def qu6 (o:Int) (st:St) (num:Int) (str:List UInt8):Ast:=.leaf ⟨o,st.place,num,str,[],[]⟩
def qb7 (s:ByteArray) (fS fE:St→Res) (st:St):Res:=
 if st.tk.kind=22 then qd4 s fS 14 st else if st.tk.kind=23 then qd4 s fS 15 st else if st.tk.kind=26 then qd2 s fE st
 else if st.tk.kind=2 then .ok (qu6 0 st 0 st.tk.str) (v6 s st)
 else if st.tk.kind=3 then .ok (qu6 1 st st.tk.num []) (v6 s st)
 else if st.tk.kind=4 then .ok (qu6 2 st 0 st.tk.str) (v6 s st)
 else if st.tk.kind=8 then .ok (qu6 3 st 0 []) (v6 s st)
 else if st.tk.kind=9 then .ok (qu6 4 st 0 []) (v6 s st) else .err 2 st.place
theorem IsNode.leafed {rb:Nat} {w:World} (hlt:rb<w.heap.size) (op place num:Int) (str:List UInt8) :
  IsNode rb (w.alloc (.cells #[.int .i64 op,.int .i64 place,.slice none 0 0,.int .i64 num,.string (BS str),.string ⟨#[]⟩,.slice none 0 0] 102))
   (.pointer (some ⟨w.heap.size,0,none⟩)) (.leaf ⟨op,place,num,str,[],[]⟩):=
 ⟨w.heap.size,rfl,⟨hlt,by simp,by simp,by simp,by simp,by simp,by simp,by simp [BS],.slice none 0 0,by simp,.inl ⟨rfl,rfl⟩⟩⟩
theorem vu5 (k p n:Int) (b:ByteArray) (w:World):(Instr.field 91 (.agg #[.int .i64 k,.int .i64 p,.int .i64 n,.string b]) 1).run Tryz.prog w=.ok (.int .i64 p) w:=by kernel_rfl
theorem vr9 (rb:Nat) (s:ByteArray) (op:Nat) (hop:op≤12) (fS fE:St→Res) (hS:op<12→qf6 301 rb s (op+1) fS) (hE:op<12→qf6 55 rb s (op+1) fE):qf6 301 rb s op (qb7 s fS fE):=by
 intro w st h ho
 have H:=v7 h
 have HS:=v7 hS
 have HE:=v7 hE
 have hlt:=h.lt
 have n0:¬w.heap.size=rb:=by omega
 have hle:st.tk.kind≠0→st.place≤(v6 s st).place:=h.fine.le
 have HFN:=v7 h.fine.next
 obtain ⟨c0,c1,c2,c3,c4,c5,c6,fz⟩:=h.at'
 clear h hS hE
 by_cases hk:st.tk.kind=22
 ·have hne:st.tk.kind≠0:=by rw [hk];decide
  have e22:(st.tk.kind==22)=true:=by rw [hk];rfl
  rw [qb7,if_pos hk]
  have hlp:=hle hne
  have HNE:=v7 hne
  clear hk hle hne
  go_enter Tryz.func301,Tryz.ntmps301
  go_wp2_with fail
  refine (vf6 rb s op hop fS (q9 HS) 14 _ st ((q9 H).allocd _) ho (q9 HNE)).mono ?_
  rintro e w' hg
  rcases hg.cases with ⟨v,rfl,hg⟩|⟨en,pl,rfl,hg⟩
  ·have HG:=v7 (hg.from ((Kept.refl rb w).alloc _))
   clear hg
   go_wp2_with fail
   go_ret
   exact q9 HG
  ·exact ⟨rfl,hg.from ((Kept.refl rb w).alloc _)⟩
 have h22:=hk
 clear hk
 by_cases hk:st.tk.kind=23
 ·have hne:st.tk.kind≠0:=by rw [hk];decide
  have e22:(st.tk.kind==22)=false:=by rw [hk];rfl
  have e23:(st.tk.kind==23)=true:=by rw [hk];rfl
  rw [qb7,if_neg (show ¬st.tk.kind=22 by rw [hk];decide),if_pos hk]
  have hlp:=hle hne
  have HNE:=v7 hne
  clear hk hle hne
  go_enter Tryz.func301,Tryz.ntmps301
  go_wp2_with fail
  refine (vf6 rb s op hop fS (q9 HS) 15 _ st ((q9 H).allocd _) ho (q9 HNE)).mono ?_
  rintro e w' hg
  rcases hg.cases with ⟨v,rfl,hg⟩|⟨en,pl,rfl,hg⟩
  ·have HG:=v7 (hg.from ((Kept.refl rb w).alloc _))
   clear hg
   go_wp2_with fail
   go_ret
   exact q9 HG
  ·exact ⟨rfl,hg.from ((Kept.refl rb w).alloc _)⟩
 have h23:=hk
 clear hk
 by_cases hk:st.tk.kind=26
 ·have hne:st.tk.kind≠0:=by rw [hk];decide
  have e22:(st.tk.kind==22)=false:=by rw [hk];rfl
  have e23:(st.tk.kind==23)=false:=by rw [hk];rfl
  have e26:(st.tk.kind==26)=true:=by rw [hk];rfl
  rw [qb7,if_neg (show ¬st.tk.kind=22 by rw [hk];decide),if_neg (show ¬st.tk.kind=23 by rw [hk];decide),if_pos hk]
  have hlp:=hle hne
  have HNE:=v7 hne
  clear hk hle hne
  go_enter Tryz.func301,Tryz.ntmps301
  go_wp2_with fail
  refine (vv4 rb s op hop fE (q9 HE) _ st ((q9 H).allocd _) ho (q9 HNE)).mono ?_
  rintro e w' hg
  rcases hg.cases with ⟨v,rfl,hg⟩|⟨en,pl,rfl,hg⟩
  ·have HG:=v7 (hg.from ((Kept.refl rb w).alloc _))
   clear hg
   go_wp2_with fail
   go_ret
   exact q9 HG
  ·exact ⟨rfl,hg.from ((Kept.refl rb w).alloc _)⟩
 have h26:=hk
 clear hk
 by_cases hk:st.tk.kind=2
 ·have hne:st.tk.kind≠0:=by rw [hk];decide
  have e22:(st.tk.kind==22)=false:=by rw [hk];rfl
  have e23:(st.tk.kind==23)=false:=by rw [hk];rfl
  have e26:(st.tk.kind==26)=false:=by rw [hk];rfl
  have e2:(st.tk.kind==2)=true:=by rw [hk];rfl
  rw [qb7,if_neg (show ¬st.tk.kind=22 by rw [hk];decide),if_neg (show ¬st.tk.kind=23 by rw [hk];decide),if_neg (show ¬st.tk.kind=26 by rw [hk];decide),if_pos hk]
  have hlp:=hle hne
  have HNE:=v7 hne
  clear hk hle hne
  go_enter Tryz.func301,Tryz.ntmps301
  go_wp2_with (go_at_call 54;refine (qc9 rb s st _ (q9 H).size (q9 H).fine.after ((q9 H).at'.allocd _ hlt) (by simp;omega) ((q9 H).err.alloc _)).mono ?_;rintro e w1 ⟨rfl,hr1,hk1⟩;have hz1:w.heap.size<w1.heap.size:=(by have:=hk1.size;simp at this;omega);have q1:w1.cell? ⟨w.heap.size,1,none⟩=some (.int .i64 st.place):=((qa5 hk1).1 _ 1 (by simp) n0).trans (by simp);have q2:w1.cell? ⟨w.heap.size,2,none⟩=some (.int .i64 st.tk.num):=((qa5 hk1).1 _ 2 (by simp) n0).trans (by simp);have q3:w1.cell? ⟨w.heap.size,3,none⟩=some (.string (BS st.tk.str)):=((qa5 hk1).1 _ 3 (by simp) n0).trans (by simp);have hr1:=v7 hr1;have hK1:=v7 (((Kept.refl rb w).alloc _).trans hk1);clear hk1)
  go_ret
  refine ⟨(q9 hK1).alloc _,_,rfl, ?_,(q9 hr1).allocd _ (by omega),q9 HFN,ho,hlp⟩
  exact IsNode.leafed (by omega) 0 st.place (0) (st.tk.str)
 have h2:=hk
 clear hk
 by_cases hk:st.tk.kind=3
 ·have hne:st.tk.kind≠0:=by rw [hk];decide
  have e22:(st.tk.kind==22)=false:=by rw [hk];rfl
  have e23:(st.tk.kind==23)=false:=by rw [hk];rfl
  have e26:(st.tk.kind==26)=false:=by rw [hk];rfl
  have e2:(st.tk.kind==2)=false:=by rw [hk];rfl
  have e3:(st.tk.kind==3)=true:=by rw [hk];rfl
  rw [qb7,if_neg (show ¬st.tk.kind=22 by rw [hk];decide),if_neg (show ¬st.tk.kind=23 by rw [hk];decide),if_neg (show ¬st.tk.kind=26 by rw [hk];decide),if_neg (show ¬st.tk.kind=2 by rw [hk];decide),if_pos hk]
  have hlp:=hle hne
  have HNE:=v7 hne
  clear hk hle hne
  go_enter Tryz.func301,Tryz.ntmps301
  go_wp2_with (go_at_call 54;refine (qc9 rb s st _ (q9 H).size (q9 H).fine.after ((q9 H).at'.allocd _ hlt) (by simp;omega) ((q9 H).err.alloc _)).mono ?_;rintro e w1 ⟨rfl,hr1,hk1⟩;have hz1:w.heap.size<w1.heap.size:=(by have:=hk1.size;simp at this;omega);have q1:w1.cell? ⟨w.heap.size,1,none⟩=some (.int .i64 st.place):=((qa5 hk1).1 _ 1 (by simp) n0).trans (by simp);have q2:w1.cell? ⟨w.heap.size,2,none⟩=some (.int .i64 st.tk.num):=((qa5 hk1).1 _ 2 (by simp) n0).trans (by simp);have q3:w1.cell? ⟨w.heap.size,3,none⟩=some (.string (BS st.tk.str)):=((qa5 hk1).1 _ 3 (by simp) n0).trans (by simp);have hr1:=v7 hr1;have hK1:=v7 (((Kept.refl rb w).alloc _).trans hk1);clear hk1)
  go_ret
  refine ⟨(q9 hK1).alloc _,_,rfl, ?_,(q9 hr1).allocd _ (by omega),q9 HFN,ho,hlp⟩
  exact IsNode.leafed (by omega) 1 st.place (st.tk.num) ([])
 have h3:=hk
 clear hk
 by_cases hk:st.tk.kind=4
 ·have hne:st.tk.kind≠0:=by rw [hk];decide
  have e22:(st.tk.kind==22)=false:=by rw [hk];rfl
  have e23:(st.tk.kind==23)=false:=by rw [hk];rfl
  have e26:(st.tk.kind==26)=false:=by rw [hk];rfl
  have e2:(st.tk.kind==2)=false:=by rw [hk];rfl
  have e3:(st.tk.kind==3)=false:=by rw [hk];rfl
  have e4:(st.tk.kind==4)=true:=by rw [hk];rfl
  rw [qb7,if_neg (show ¬st.tk.kind=22 by rw [hk];decide),if_neg (show ¬st.tk.kind=23 by rw [hk];decide),if_neg (show ¬st.tk.kind=26 by rw [hk];decide),if_neg (show ¬st.tk.kind=2 by rw [hk];decide),if_neg (show ¬st.tk.kind=3 by rw [hk];decide),if_pos hk]
  have hlp:=hle hne
  have HNE:=v7 hne
  clear hk hle hne
  go_enter Tryz.func301,Tryz.ntmps301
  go_wp2_with (go_at_call 54;refine (qc9 rb s st _ (q9 H).size (q9 H).fine.after ((q9 H).at'.allocd _ hlt) (by simp;omega) ((q9 H).err.alloc _)).mono ?_;rintro e w1 ⟨rfl,hr1,hk1⟩;have hz1:w.heap.size<w1.heap.size:=(by have:=hk1.size;simp at this;omega);have q1:w1.cell? ⟨w.heap.size,1,none⟩=some (.int .i64 st.place):=((qa5 hk1).1 _ 1 (by simp) n0).trans (by simp);have q2:w1.cell? ⟨w.heap.size,2,none⟩=some (.int .i64 st.tk.num):=((qa5 hk1).1 _ 2 (by simp) n0).trans (by simp);have q3:w1.cell? ⟨w.heap.size,3,none⟩=some (.string (BS st.tk.str)):=((qa5 hk1).1 _ 3 (by simp) n0).trans (by simp);have hr1:=v7 hr1;have hK1:=v7 (((Kept.refl rb w).alloc _).trans hk1);clear hk1)
  go_ret
  refine ⟨(q9 hK1).alloc _,_,rfl, ?_,(q9 hr1).allocd _ (by omega),q9 HFN,ho,hlp⟩
  exact IsNode.leafed (by omega) 2 st.place (0) (st.tk.str)
 have h4:=hk
 clear hk
 by_cases hk:st.tk.kind=8
 ·have hne:st.tk.kind≠0:=by rw [hk];decide
  have e22:(st.tk.kind==22)=false:=by rw [hk];rfl
  have e23:(st.tk.kind==23)=false:=by rw [hk];rfl
  have e26:(st.tk.kind==26)=false:=by rw [hk];rfl
  have e2:(st.tk.kind==2)=false:=by rw [hk];rfl
  have e3:(st.tk.kind==3)=false:=by rw [hk];rfl
  have e4:(st.tk.kind==4)=false:=by rw [hk];rfl
  have e8:(st.tk.kind==8)=true:=by rw [hk];rfl
  rw [qb7,if_neg (show ¬st.tk.kind=22 by rw [hk];decide),if_neg (show ¬st.tk.kind=23 by rw [hk];decide),if_neg (show ¬st.tk.kind=26 by rw [hk];decide),if_neg (show ¬st.tk.kind=2 by rw [hk];decide),if_neg (show ¬st.tk.kind=3 by rw [hk];decide),if_neg (show ¬st.tk.kind=4 by rw [hk];decide),if_pos hk]
  have hlp:=hle hne
  have HNE:=v7 hne
  clear hk hle hne
  go_enter Tryz.func301,Tryz.ntmps301
  go_wp2_with (go_at_call 54;refine (qc9 rb s st _ (q9 H).size (q9 H).fine.after ((q9 H).at'.allocd _ hlt) (by simp;omega) ((q9 H).err.alloc _)).mono ?_;rintro e w1 ⟨rfl,hr1,hk1⟩;have hz1:w.heap.size<w1.heap.size:=(by have:=hk1.size;simp at this;omega);have q1:w1.cell? ⟨w.heap.size,1,none⟩=some (.int .i64 st.place):=((qa5 hk1).1 _ 1 (by simp) n0).trans (by simp);have q2:w1.cell? ⟨w.heap.size,2,none⟩=some (.int .i64 st.tk.num):=((qa5 hk1).1 _ 2 (by simp) n0).trans (by simp);have q3:w1.cell? ⟨w.heap.size,3,none⟩=some (.string (BS st.tk.str)):=((qa5 hk1).1 _ 3 (by simp) n0).trans (by simp);have hr1:=v7 hr1;have hK1:=v7 (((Kept.refl rb w).alloc _).trans hk1);clear hk1)
  go_ret
  refine ⟨(q9 hK1).alloc _,_,rfl, ?_,(q9 hr1).allocd _ (by omega),q9 HFN,ho,hlp⟩
  exact IsNode.leafed (by omega) 3 st.place (0) ([])
 have h8:=hk
 clear hk
 have e22:(st.tk.kind==22)=false:=beq_eq_false_iff_ne.2 h22
 have e23:(st.tk.kind==23)=false:=beq_eq_false_iff_ne.2 h23
 have e26:(st.tk.kind==26)=false:=beq_eq_false_iff_ne.2 h26
 have e2:(st.tk.kind==2)=false:=beq_eq_false_iff_ne.2 h2
 have e3:(st.tk.kind==3)=false:=beq_eq_false_iff_ne.2 h3
 have e4:(st.tk.kind==4)=false:=beq_eq_false_iff_ne.2 h4
 have e8:(st.tk.kind==8)=false:=beq_eq_false_iff_ne.2 h8
 rw [qb7,if_neg h22,if_neg h23,if_neg h26,if_neg h2,if_neg h3,if_neg h4,if_neg h8]
 clear h22 h23 h26 h2 h3 h4 h8
 by_cases h9:st.tk.kind=9
 ·rw [if_pos h9]
  have hlp:=hle (by rw [h9];decide)
  have H9:=v7 h9
  clear h9 hle
  have hfd:=vu5
  go_enter Tryz.func301,Tryz.ntmps301
  go_wp2_with (go_at_call 56;refine (qc3 rb s st 9 _ (q9 H).size (q9 H).fine.after ((q9 H).at'.allocd _ hlt) (by simp;omega) ((q9 H).err.alloc _) (q9 H9)).mono ?_;rintro e w1 ⟨rfl,hr1,hk1⟩;have hz1:w.heap.size<w1.heap.size:=(by have:=hk1.size;simp at this;omega);have hr1:=v7 hr1;have hK1:=v7 (((Kept.refl rb w).alloc _).trans hk1);clear hk1;simp only [tkV])
  go_ret
  refine ⟨(q9 hK1).alloc _,_,rfl, ?_,(q9 hr1).allocd _ (by omega),q9 HFN,ho,hlp⟩
  exact IsNode.leafed (by omega) 4 st.place 0 []
 ·rw [if_neg h9]
  have H9:=v7 h9
  clear h9 hle
  go_enter Tryz.func301,Tryz.ntmps301
  go_wp2_with (go_at_call 56;refine (qk6 rb s st 9 _ ((q9 H).at'.allocd _ hlt) (by simp;omega) (q9 H9)).mono ?_;rintro e w1 ⟨rfl,hk1⟩;simp only [qa1])
  exact ⟨rfl,((Kept.refl rb w).alloc _).trans hk1,rfl⟩
end
end Go.Proofs.YtfkcaldjphakpaaGreatDoor
