/- joined: a term of two sides, whatever reads the second one. -/
import Derived.Test.YtfkcaldjphakpabGreatDoorF03
import Derived.Deep.RegionHeld3
set_option maxHeartbeats 1000000
namespace Go.Proofs.YtfkcaldjphakpabGreatDoor
open Go.RowKit
def binOf (st:St) (l r:Ast):Ast:=.bin ⟨js3 st.tk.kind,st.place,0,[],[],[]⟩ l r
def qb4 (s:ByteArray) (f:St→Res) (st:St) (l:Ast):Res:=match f (v9 s st) with
 | .ok r st'=>.ok (binOf st l r) st'
 | .err en pl=>.err en pl
theorem qu4 {s:ByteArray} {f:St→Res} {st:St} {l r:Ast} {st':St} (h:f (v9 s st)=.ok r st'):qb4 s f st l=.ok (binOf st l r) st':=by unfold qb4;rw [h]
theorem qr7 {s:ByteArray} {f:St→Res} {st:St} {l:Ast} {en pl:Int} (h:f (v9 s st)=.err en pl):qb4 s f st l=.err en pl:=by unfold qb4;rw [h]
theorem gone {Q:Prop} {w:World} (h:Q) (_:wpAny Tryz.prog .any #[] (fun _ _ _=>True) 0 #[] ⟨#[],[]⟩ w):Q:=h
theorem stepSt_op (s:ByteArray) (st:St):(v9 s st).op=st.op:=rfl
theorem Ready.stepped {rb:Nat} {s:ByteArray} {w w1:World} {st:St} (h:Ready rb s w st) (hk:Kept rb w w1) (hr:RdAt w1 rb s (v9 s st)):Ready rb s w1.drew (v9 s st):=
 h.kept hk.drew (hr.below ((Below.refl w1.heap.size w1).drew) (Nat.lt_of_lt_of_le h.lt hk.size)) (qm7 s st h.fine.after)
theorem IsNode.ptr {rb:Nat} {w:World} {v:Value} {t:Ast} (h:IsNode rb w v t):∃b,v=.pointer (some ⟨b,0,none⟩):=by
 cases t with
 | leaf p=>obtain ⟨b,hv,_⟩:=h;exact ⟨b,hv⟩
 | un p x=>obtain ⟨b,g,v1,hv,_⟩:=h;exact ⟨b,hv⟩
 | bin p x y=>obtain ⟨b,g,v1,v2,hv,_⟩:=h;exact ⟨b,hv⟩
 | tri p x y z=>obtain ⟨b,g,v1,v2,v3,hv,_⟩:=h;exact ⟨b,hv⟩
theorem IsNode.two {rb:Nat} {w:World} {l r:Ast} {lv rv:Value} (hl:IsNode rb w lv l) (hr:IsNode rb w rv r) (hlt:rb<w.heap.size) (op place:Int) :
  IsNode rb ((w.alloc (.cells #[lv,rv] 74)).alloc (.cells #[.int .i64 op,.int .i64 place,.slice (some ⟨w.heap.size,0,none⟩) 2 2,.int .i64 0,.string ⟨#[]⟩,.string ⟨#[]⟩,.slice none 0 0] 138))
   (.pointer (some ⟨w.heap.size+1,0,none⟩)) (.bin ⟨op,place,0,[],[],[]⟩ l r):=by
 have hk:Kept rb w ((w.alloc (.cells #[lv,rv] 74)).alloc (.cells #[.int .i64 op,.int .i64 place,.slice (some ⟨w.heap.size,0,none⟩) 2 2,.int .i64 0,.string ⟨#[]⟩,.string ⟨#[]⟩,.slice none 0 0] 138)):=((Kept.refl rb w).alloc _).alloc _
 refine ⟨w.heap.size+1,w.heap.size,lv,rv,rfl,⟨by omega,by simp,by simp,by simp,by simp,by simp,by simp [BS],by simp [BS],.slice none 0 0,by simp,.inl ⟨rfl,rfl⟩⟩,hlt,by simp;omega, ?_, ?_,hl.kept hk,hr.kept hk⟩
 ·rw [World.cell?_alloc_past _ _ _ (by simp),World.cell?_alloc_at _ _ _ _ rfl];rfl
 ·rw [World.cell?_alloc_past _ _ _ (by simp),World.cell?_alloc_at _ _ _ _ rfl];rfl
theorem vk1 (rb:Nat) (s:ByteArray) (op:Nat) (f:St→Res) (hf:qe8 86 rb s op f) (st:St) (l:Ast) (lv:Value) (w:World) (h:Ready rb s w st) (hop:st.op=op) (hl:IsNode rb w lv l) :
  Calls Tryz.prog 133 #[.pointer (some ⟨rb,0,none⟩),lv,.func (.func 86) #[.pointer (some ⟨rb,0,none⟩)] #[]] w (Gives rb s w op st.after (qb4 s f st l)):=by
 have hr:=h.at'
 have hlt:=h.lt
 have H:=v7 h
 obtain ⟨c0,c1,c2,c3,c4,c5,c6,fz⟩:=hr
 have HF:=v7 hf
 obtain ⟨lb,rfl⟩:=hl.ptr
 have HL:=v7 hl
 have n0:¬w.heap.size=rb:=by omega
 clear hf h hl
 cases hres:f (v9 s st) with
 | ok r st'=>
  rw [qu4 hres]
  have HRES:=v7 hres
  clear hres
  go_enter Tryz.func133,Tryz.ntmps133
  go_wp2_with (go_at_call 55;refine (qb7 rb s st _ (q9 H).size (q9 H).fine.after ((q9 H).at'.allocd _ hlt) (by simp;omega) ((q9 H).err.alloc _)).mono ?_;rintro e w1 ⟨rfl,hr1,hk1⟩;have hr1:=v7 hr1;have hz1:w.heap.size<w1.heap.size:=(by have:=hk1.size;simp at this;omega);have p0:w1.cell? ⟨w.heap.size,0,none⟩=some (.int .i64 st.tk.kind):=((x5 hk1).1 _ 0 (by simp) n0).trans (by simp);have p1:w1.cell? ⟨w.heap.size,1,none⟩=some (.int .i64 st.place):=((x5 hk1).1 _ 1 (by simp) n0).trans (by simp);have hK1:=v7 (((Kept.refl rb w).alloc _).trans hk1);clear hk1)
  go_region_held3 (fun w'=>w'.cell? ⟨w.heap.size,0,none⟩=some (.int .i64 st.tk.kind)∧w'.cell? ⟨w.heap.size,1,none⟩=some (.int .i64 st.place)) (go_keep) (first|(go_at_call 182;refine (qe1 _ _).mono ?_;rintro e w' ⟨rfl,rfl⟩)|(go_at_call 86;refine (q9 HF _ (v9 s st) ((q9 H).stepped (q9 hK1) (q9 hr1)) hop).mono ?_;rintro e w2 ⟨hk2,h2⟩;rw [q9 HRES] at h2;obtain ⟨v2,rfl,hn2,hr2,ha2,ho2,hp2⟩:=h2;obtain ⟨vb,rfl⟩:=hn2.ptr;have p0':w2.cell? ⟨w.heap.size,0,none⟩=some (.int .i64 st.tk.kind):=((x5 hk2).1 _ 0 hz1 n0).trans p0;have p1':w2.cell? ⟨w.heap.size,1,none⟩=some (.int .i64 st.place):=((x5 hk2).1 _ 1 hz1 n0).trans p1;have hz2:w.heap.size<w2.heap.size:=Nat.lt_of_lt_of_le hz1 hk2.size;have hk2:=v7 hk2;have hn2:=v7 hn2;have hr2:=v7 hr2))
  all_goals (go_wp2_with fail)
  all_goals go_ret
  refine ⟨?_,_,rfl, ?_, ?_,ha2,ho2,Nat.le_trans (qi2 s st) hp2⟩
  ·exact ((((q9 hK1).trans ((Kept.refl rb w1).drew.trans (q9 hk2))).alloc _).alloc _)
  ·have:=IsNode.two (op:=js3 st.tk.kind) (place:=st.place) ((q9 HL).kept ((q9 hK1).trans ((Kept.refl rb w1).drew.trans (q9 hk2)))) (q9 hn2) (by omega)
   exact this
  ·exact (((q9 hr2).allocd _ (by omega)).allocd _ (by simp;omega))
 | err en pl=>
  rw [qr7 hres]
  have HRES:=v7 hres
  clear hres
  go_enter Tryz.func133,Tryz.ntmps133
  go_wp2_with (go_at_call 55;refine (qb7 rb s st _ (q9 H).size (q9 H).fine.after ((q9 H).at'.allocd _ hlt) (by simp;omega) ((q9 H).err.alloc _)).mono ?_;rintro e w1 ⟨rfl,hr1,hk1⟩;have hr1:=v7 hr1;have hz1:w.heap.size<w1.heap.size:=(by have:=hk1.size;simp at this;omega);have p0:w1.cell? ⟨w.heap.size,0,none⟩=some (.int .i64 st.tk.kind):=((x5 hk1).1 _ 0 (by simp) n0).trans (by simp);have p1:w1.cell? ⟨w.heap.size,1,none⟩=some (.int .i64 st.place):=((x5 hk1).1 _ 1 (by simp) n0).trans (by simp);have hK1:=v7 (((Kept.refl rb w).alloc _).trans hk1);clear hk1)
  go_region_with (first|(go_at_call 182;refine (qe1 _ _).mono ?_;rintro e w' ⟨rfl,rfl⟩)|(go_at_call 86;refine (q9 HF _ (v9 s st) ((q9 H).stepped (q9 hK1) (q9 hr1)) hop).mono ?_;rintro e w2 ⟨hk2,h2⟩;rw [q9 HRES] at h2;subst h2;refine gone (w:=w2) ⟨rfl,(q9 hK1).trans ((Kept.refl rb w1).drew.trans hk2),rfl⟩ ?_))
  all_goals trivial
theorem vc2 (rb:Nat) (s:ByteArray) (op:Nat) (f:St→Res) (hf:qe8 134 rb s op f) (st:St) (l:Ast) (lv:Value) (w:World) (h:Ready rb s w st) (hop:st.op=op) (hl:IsNode rb w lv l) :
  Calls Tryz.prog 133 #[.pointer (some ⟨rb,0,none⟩),lv,.func (.func 134) #[.pointer (some ⟨rb,0,none⟩)] #[]] w (Gives rb s w op st.after (qb4 s f st l)):=by
 have hr:=h.at'
 have hlt:=h.lt
 have H:=v7 h
 obtain ⟨c0,c1,c2,c3,c4,c5,c6,fz⟩:=hr
 have HF:=v7 hf
 obtain ⟨lb,rfl⟩:=hl.ptr
 have HL:=v7 hl
 have n0:¬w.heap.size=rb:=by omega
 clear hf h hl
 cases hres:f (v9 s st) with
 | ok r st'=>
  rw [qu4 hres]
  have HRES:=v7 hres
  clear hres
  go_enter Tryz.func133,Tryz.ntmps133
  go_wp2_with (go_at_call 55;refine (qb7 rb s st _ (q9 H).size (q9 H).fine.after ((q9 H).at'.allocd _ hlt) (by simp;omega) ((q9 H).err.alloc _)).mono ?_;rintro e w1 ⟨rfl,hr1,hk1⟩;have hr1:=v7 hr1;have hz1:w.heap.size<w1.heap.size:=(by have:=hk1.size;simp at this;omega);have p0:w1.cell? ⟨w.heap.size,0,none⟩=some (.int .i64 st.tk.kind):=((x5 hk1).1 _ 0 (by simp) n0).trans (by simp);have p1:w1.cell? ⟨w.heap.size,1,none⟩=some (.int .i64 st.place):=((x5 hk1).1 _ 1 (by simp) n0).trans (by simp);have hK1:=v7 (((Kept.refl rb w).alloc _).trans hk1);clear hk1)
  go_region_held3 (fun w'=>w'.cell? ⟨w.heap.size,0,none⟩=some (.int .i64 st.tk.kind)∧w'.cell? ⟨w.heap.size,1,none⟩=some (.int .i64 st.place)) (go_keep) (first|(go_at_call 182;refine (qe1 _ _).mono ?_;rintro e w' ⟨rfl,rfl⟩)|(go_at_call 134;refine (q9 HF _ (v9 s st) ((q9 H).stepped (q9 hK1) (q9 hr1)) hop).mono ?_;rintro e w2 ⟨hk2,h2⟩;rw [q9 HRES] at h2;obtain ⟨v2,rfl,hn2,hr2,ha2,ho2,hp2⟩:=h2;obtain ⟨vb,rfl⟩:=hn2.ptr;have p0':w2.cell? ⟨w.heap.size,0,none⟩=some (.int .i64 st.tk.kind):=((x5 hk2).1 _ 0 hz1 n0).trans p0;have p1':w2.cell? ⟨w.heap.size,1,none⟩=some (.int .i64 st.place):=((x5 hk2).1 _ 1 hz1 n0).trans p1;have hz2:w.heap.size<w2.heap.size:=Nat.lt_of_lt_of_le hz1 hk2.size;have hk2:=v7 hk2;have hn2:=v7 hn2;have hr2:=v7 hr2))
  all_goals (go_wp2_with fail)
  all_goals go_ret
  refine ⟨?_,_,rfl, ?_, ?_,ha2,ho2,Nat.le_trans (qi2 s st) hp2⟩
  ·exact ((((q9 hK1).trans ((Kept.refl rb w1).drew.trans (q9 hk2))).alloc _).alloc _)
  ·have:=IsNode.two (op:=js3 st.tk.kind) (place:=st.place) ((q9 HL).kept ((q9 hK1).trans ((Kept.refl rb w1).drew.trans (q9 hk2)))) (q9 hn2) (by omega)
   exact this
  ·exact (((q9 hr2).allocd _ (by omega)).allocd _ (by simp;omega))
 | err en pl=>
  rw [qr7 hres]
  have HRES:=v7 hres
  clear hres
  go_enter Tryz.func133,Tryz.ntmps133
  go_wp2_with (go_at_call 55;refine (qb7 rb s st _ (q9 H).size (q9 H).fine.after ((q9 H).at'.allocd _ hlt) (by simp;omega) ((q9 H).err.alloc _)).mono ?_;rintro e w1 ⟨rfl,hr1,hk1⟩;have hr1:=v7 hr1;have hz1:w.heap.size<w1.heap.size:=(by have:=hk1.size;simp at this;omega);have p0:w1.cell? ⟨w.heap.size,0,none⟩=some (.int .i64 st.tk.kind):=((x5 hk1).1 _ 0 (by simp) n0).trans (by simp);have p1:w1.cell? ⟨w.heap.size,1,none⟩=some (.int .i64 st.place):=((x5 hk1).1 _ 1 (by simp) n0).trans (by simp);have hK1:=v7 (((Kept.refl rb w).alloc _).trans hk1);clear hk1)
  go_region_with (first|(go_at_call 182;refine (qe1 _ _).mono ?_;rintro e w' ⟨rfl,rfl⟩)|(go_at_call 134;refine (q9 HF _ (v9 s st) ((q9 H).stepped (q9 hK1) (q9 hr1)) hop).mono ?_;rintro e w2 ⟨hk2,h2⟩;rw [q9 HRES] at h2;subst h2;refine gone (w:=w2) ⟨rfl,(q9 hK1).trans ((Kept.refl rb w1).drew.trans hk2),rfl⟩ ?_))
  all_goals trivial
theorem va4 (rb:Nat) (s:ByteArray) (op:Nat) (f:St→Res) (hf:qe8 252 rb s op f) (st:St) (l:Ast) (lv:Value) (w:World) (h:Ready rb s w st) (hop:st.op=op) (hl:IsNode rb w lv l) :
  Calls Tryz.prog 133 #[.pointer (some ⟨rb,0,none⟩),lv,.func (.func 252) #[.pointer (some ⟨rb,0,none⟩)] #[]] w (Gives rb s w op st.after (qb4 s f st l)):=by
 have hr:=h.at'
 have hlt:=h.lt
 have H:=v7 h
 obtain ⟨c0,c1,c2,c3,c4,c5,c6,fz⟩:=hr
 have HF:=v7 hf
 obtain ⟨lb,rfl⟩:=hl.ptr
 have HL:=v7 hl
 have n0:¬w.heap.size=rb:=by omega
 clear hf h hl
 cases hres:f (v9 s st) with
 | ok r st'=>
  rw [qu4 hres]
  have HRES:=v7 hres
  clear hres
  go_enter Tryz.func133,Tryz.ntmps133
  go_wp2_with (go_at_call 55;refine (qb7 rb s st _ (q9 H).size (q9 H).fine.after ((q9 H).at'.allocd _ hlt) (by simp;omega) ((q9 H).err.alloc _)).mono ?_;rintro e w1 ⟨rfl,hr1,hk1⟩;have hr1:=v7 hr1;have hz1:w.heap.size<w1.heap.size:=(by have:=hk1.size;simp at this;omega);have p0:w1.cell? ⟨w.heap.size,0,none⟩=some (.int .i64 st.tk.kind):=((x5 hk1).1 _ 0 (by simp) n0).trans (by simp);have p1:w1.cell? ⟨w.heap.size,1,none⟩=some (.int .i64 st.place):=((x5 hk1).1 _ 1 (by simp) n0).trans (by simp);have hK1:=v7 (((Kept.refl rb w).alloc _).trans hk1);clear hk1)
  go_region_held3 (fun w'=>w'.cell? ⟨w.heap.size,0,none⟩=some (.int .i64 st.tk.kind)∧w'.cell? ⟨w.heap.size,1,none⟩=some (.int .i64 st.place)) (go_keep) (first|(go_at_call 182;refine (qe1 _ _).mono ?_;rintro e w' ⟨rfl,rfl⟩)|(go_at_call 252;refine (q9 HF _ (v9 s st) ((q9 H).stepped (q9 hK1) (q9 hr1)) hop).mono ?_;rintro e w2 ⟨hk2,h2⟩;rw [q9 HRES] at h2;obtain ⟨v2,rfl,hn2,hr2,ha2,ho2,hp2⟩:=h2;obtain ⟨vb,rfl⟩:=hn2.ptr;have p0':w2.cell? ⟨w.heap.size,0,none⟩=some (.int .i64 st.tk.kind):=((x5 hk2).1 _ 0 hz1 n0).trans p0;have p1':w2.cell? ⟨w.heap.size,1,none⟩=some (.int .i64 st.place):=((x5 hk2).1 _ 1 hz1 n0).trans p1;have hz2:w.heap.size<w2.heap.size:=Nat.lt_of_lt_of_le hz1 hk2.size;have hk2:=v7 hk2;have hn2:=v7 hn2;have hr2:=v7 hr2))
  all_goals (go_wp2_with fail)
  all_goals go_ret
  refine ⟨?_,_,rfl, ?_, ?_,ha2,ho2,Nat.le_trans (qi2 s st) hp2⟩
  ·exact ((((q9 hK1).trans ((Kept.refl rb w1).drew.trans (q9 hk2))).alloc _).alloc _)
  ·have:=IsNode.two (op:=js3 st.tk.kind) (place:=st.place) ((q9 HL).kept ((q9 hK1).trans ((Kept.refl rb w1).drew.trans (q9 hk2)))) (q9 hn2) (by omega)
   exact this
  ·exact (((q9 hr2).allocd _ (by omega)).allocd _ (by simp;omega))
 | err en pl=>
  rw [qr7 hres]
  have HRES:=v7 hres
  clear hres
  go_enter Tryz.func133,Tryz.ntmps133
  go_wp2_with (go_at_call 55;refine (qb7 rb s st _ (q9 H).size (q9 H).fine.after ((q9 H).at'.allocd _ hlt) (by simp;omega) ((q9 H).err.alloc _)).mono ?_;rintro e w1 ⟨rfl,hr1,hk1⟩;have hr1:=v7 hr1;have hz1:w.heap.size<w1.heap.size:=(by have:=hk1.size;simp at this;omega);have p0:w1.cell? ⟨w.heap.size,0,none⟩=some (.int .i64 st.tk.kind):=((x5 hk1).1 _ 0 (by simp) n0).trans (by simp);have p1:w1.cell? ⟨w.heap.size,1,none⟩=some (.int .i64 st.place):=((x5 hk1).1 _ 1 (by simp) n0).trans (by simp);have hK1:=v7 (((Kept.refl rb w).alloc _).trans hk1);clear hk1)
  go_region_with (first|(go_at_call 182;refine (qe1 _ _).mono ?_;rintro e w' ⟨rfl,rfl⟩)|(go_at_call 252;refine (q9 HF _ (v9 s st) ((q9 H).stepped (q9 hK1) (q9 hr1)) hop).mono ?_;rintro e w2 ⟨hk2,h2⟩;rw [q9 HRES] at h2;subst h2;refine gone (w:=w2) ⟨rfl,(q9 hK1).trans ((Kept.refl rb w1).drew.trans hk2),rfl⟩ ?_))
  all_goals trivial
theorem vc3 (rb:Nat) (s:ByteArray) (op:Nat) (f:St→Res) (hf:qe8 291 rb s op f) (st:St) (l:Ast) (lv:Value) (w:World) (h:Ready rb s w st) (hop:st.op=op) (hl:IsNode rb w lv l) :
  Calls Tryz.prog 133 #[.pointer (some ⟨rb,0,none⟩),lv,.func (.func 291) #[.pointer (some ⟨rb,0,none⟩)] #[]] w (Gives rb s w op st.after (qb4 s f st l)):=by
 have hr:=h.at'
 have hlt:=h.lt
 have H:=v7 h
 obtain ⟨c0,c1,c2,c3,c4,c5,c6,fz⟩:=hr
 have HF:=v7 hf
 obtain ⟨lb,rfl⟩:=hl.ptr
 have HL:=v7 hl
 have n0:¬w.heap.size=rb:=by omega
 clear hf h hl
 cases hres:f (v9 s st) with
 | ok r st'=>
  rw [qu4 hres]
  have HRES:=v7 hres
  clear hres
  go_enter Tryz.func133,Tryz.ntmps133
  go_wp2_with (go_at_call 55;refine (qb7 rb s st _ (q9 H).size (q9 H).fine.after ((q9 H).at'.allocd _ hlt) (by simp;omega) ((q9 H).err.alloc _)).mono ?_;rintro e w1 ⟨rfl,hr1,hk1⟩;have hr1:=v7 hr1;have hz1:w.heap.size<w1.heap.size:=(by have:=hk1.size;simp at this;omega);have p0:w1.cell? ⟨w.heap.size,0,none⟩=some (.int .i64 st.tk.kind):=((x5 hk1).1 _ 0 (by simp) n0).trans (by simp);have p1:w1.cell? ⟨w.heap.size,1,none⟩=some (.int .i64 st.place):=((x5 hk1).1 _ 1 (by simp) n0).trans (by simp);have hK1:=v7 (((Kept.refl rb w).alloc _).trans hk1);clear hk1)
  go_region_held3 (fun w'=>w'.cell? ⟨w.heap.size,0,none⟩=some (.int .i64 st.tk.kind)∧w'.cell? ⟨w.heap.size,1,none⟩=some (.int .i64 st.place)) (go_keep) (first|(go_at_call 182;refine (qe1 _ _).mono ?_;rintro e w' ⟨rfl,rfl⟩)|(go_at_call 291;refine (q9 HF _ (v9 s st) ((q9 H).stepped (q9 hK1) (q9 hr1)) hop).mono ?_;rintro e w2 ⟨hk2,h2⟩;rw [q9 HRES] at h2;obtain ⟨v2,rfl,hn2,hr2,ha2,ho2,hp2⟩:=h2;obtain ⟨vb,rfl⟩:=hn2.ptr;have p0':w2.cell? ⟨w.heap.size,0,none⟩=some (.int .i64 st.tk.kind):=((x5 hk2).1 _ 0 hz1 n0).trans p0;have p1':w2.cell? ⟨w.heap.size,1,none⟩=some (.int .i64 st.place):=((x5 hk2).1 _ 1 hz1 n0).trans p1;have hz2:w.heap.size<w2.heap.size:=Nat.lt_of_lt_of_le hz1 hk2.size;have hk2:=v7 hk2;have hn2:=v7 hn2;have hr2:=v7 hr2))
  all_goals (go_wp2_with fail)
  all_goals go_ret
  refine ⟨?_,_,rfl, ?_, ?_,ha2,ho2,Nat.le_trans (qi2 s st) hp2⟩
  ·exact ((((q9 hK1).trans ((Kept.refl rb w1).drew.trans (q9 hk2))).alloc _).alloc _)
  ·have:=IsNode.two (op:=js3 st.tk.kind) (place:=st.place) ((q9 HL).kept ((q9 hK1).trans ((Kept.refl rb w1).drew.trans (q9 hk2)))) (q9 hn2) (by omega)
   exact this
  ·exact (((q9 hr2).allocd _ (by omega)).allocd _ (by simp;omega))
 | err en pl=>
  rw [qr7 hres]
  have HRES:=v7 hres
  clear hres
  go_enter Tryz.func133,Tryz.ntmps133
  go_wp2_with (go_at_call 55;refine (qb7 rb s st _ (q9 H).size (q9 H).fine.after ((q9 H).at'.allocd _ hlt) (by simp;omega) ((q9 H).err.alloc _)).mono ?_;rintro e w1 ⟨rfl,hr1,hk1⟩;have hr1:=v7 hr1;have hz1:w.heap.size<w1.heap.size:=(by have:=hk1.size;simp at this;omega);have p0:w1.cell? ⟨w.heap.size,0,none⟩=some (.int .i64 st.tk.kind):=((x5 hk1).1 _ 0 (by simp) n0).trans (by simp);have p1:w1.cell? ⟨w.heap.size,1,none⟩=some (.int .i64 st.place):=((x5 hk1).1 _ 1 (by simp) n0).trans (by simp);have hK1:=v7 (((Kept.refl rb w).alloc _).trans hk1);clear hk1)
  go_region_with (first|(go_at_call 182;refine (qe1 _ _).mono ?_;rintro e w' ⟨rfl,rfl⟩)|(go_at_call 291;refine (q9 HF _ (v9 s st) ((q9 H).stepped (q9 hK1) (q9 hr1)) hop).mono ?_;rintro e w2 ⟨hk2,h2⟩;rw [q9 HRES] at h2;subst h2;refine gone (w:=w2) ⟨rfl,(q9 hK1).trans ((Kept.refl rb w1).drew.trans hk2),rfl⟩ ?_))
  all_goals trivial
theorem qr0 (rb:Nat) (s:ByteArray) (op:Nat) (f:St→Res) (hf:qe8 214 rb s op f) (st:St) (l:Ast) (lv:Value) (w:World) (h:Ready rb s w st) (hop:st.op=op) (hl:IsNode rb w lv l) :
  Calls Tryz.prog 133 #[.pointer (some ⟨rb,0,none⟩),lv,.func (.func 214) #[.pointer (some ⟨rb,0,none⟩)] #[]] w (Gives rb s w op st.after (qb4 s f st l)):=by
 have hr:=h.at'
 have hlt:=h.lt
 have H:=v7 h
 obtain ⟨c0,c1,c2,c3,c4,c5,c6,fz⟩:=hr
 have HF:=v7 hf
 obtain ⟨lb,rfl⟩:=hl.ptr
 have HL:=v7 hl
 have n0:¬w.heap.size=rb:=by omega
 clear hf h hl
 cases hres:f (v9 s st) with
 | ok r st'=>
  rw [qu4 hres]
  have HRES:=v7 hres
  clear hres
  go_enter Tryz.func133,Tryz.ntmps133
  go_wp2_with (go_at_call 55;refine (qb7 rb s st _ (q9 H).size (q9 H).fine.after ((q9 H).at'.allocd _ hlt) (by simp;omega) ((q9 H).err.alloc _)).mono ?_;rintro e w1 ⟨rfl,hr1,hk1⟩;have hr1:=v7 hr1;have hz1:w.heap.size<w1.heap.size:=(by have:=hk1.size;simp at this;omega);have p0:w1.cell? ⟨w.heap.size,0,none⟩=some (.int .i64 st.tk.kind):=((x5 hk1).1 _ 0 (by simp) n0).trans (by simp);have p1:w1.cell? ⟨w.heap.size,1,none⟩=some (.int .i64 st.place):=((x5 hk1).1 _ 1 (by simp) n0).trans (by simp);have hK1:=v7 (((Kept.refl rb w).alloc _).trans hk1);clear hk1)
  go_region_held3 (fun w'=>w'.cell? ⟨w.heap.size,0,none⟩=some (.int .i64 st.tk.kind)∧w'.cell? ⟨w.heap.size,1,none⟩=some (.int .i64 st.place)) (go_keep) (first|(go_at_call 182;refine (qe1 _ _).mono ?_;rintro e w' ⟨rfl,rfl⟩)|(go_at_call 214;refine (q9 HF _ (v9 s st) ((q9 H).stepped (q9 hK1) (q9 hr1)) hop).mono ?_;rintro e w2 ⟨hk2,h2⟩;rw [q9 HRES] at h2;obtain ⟨v2,rfl,hn2,hr2,ha2,ho2,hp2⟩:=h2;obtain ⟨vb,rfl⟩:=hn2.ptr;have p0':w2.cell? ⟨w.heap.size,0,none⟩=some (.int .i64 st.tk.kind):=((x5 hk2).1 _ 0 hz1 n0).trans p0;have p1':w2.cell? ⟨w.heap.size,1,none⟩=some (.int .i64 st.place):=((x5 hk2).1 _ 1 hz1 n0).trans p1;have hz2:w.heap.size<w2.heap.size:=Nat.lt_of_lt_of_le hz1 hk2.size;have hk2:=v7 hk2;have hn2:=v7 hn2;have hr2:=v7 hr2))
  all_goals (go_wp2_with fail)
  all_goals go_ret
  refine ⟨?_,_,rfl, ?_, ?_,ha2,ho2,Nat.le_trans (qi2 s st) hp2⟩
  ·exact ((((q9 hK1).trans ((Kept.refl rb w1).drew.trans (q9 hk2))).alloc _).alloc _)
  ·have:=IsNode.two (op:=js3 st.tk.kind) (place:=st.place) ((q9 HL).kept ((q9 hK1).trans ((Kept.refl rb w1).drew.trans (q9 hk2)))) (q9 hn2) (by omega)
   exact this
  ·exact (((q9 hr2).allocd _ (by omega)).allocd _ (by simp;omega))
 | err en pl=>
  rw [qr7 hres]
  have HRES:=v7 hres
  clear hres
  go_enter Tryz.func133,Tryz.ntmps133
  go_wp2_with (go_at_call 55;refine (qb7 rb s st _ (q9 H).size (q9 H).fine.after ((q9 H).at'.allocd _ hlt) (by simp;omega) ((q9 H).err.alloc _)).mono ?_;rintro e w1 ⟨rfl,hr1,hk1⟩;have hr1:=v7 hr1;have hz1:w.heap.size<w1.heap.size:=(by have:=hk1.size;simp at this;omega);have p0:w1.cell? ⟨w.heap.size,0,none⟩=some (.int .i64 st.tk.kind):=((x5 hk1).1 _ 0 (by simp) n0).trans (by simp);have p1:w1.cell? ⟨w.heap.size,1,none⟩=some (.int .i64 st.place):=((x5 hk1).1 _ 1 (by simp) n0).trans (by simp);have hK1:=v7 (((Kept.refl rb w).alloc _).trans hk1);clear hk1)
  go_region_with (first|(go_at_call 182;refine (qe1 _ _).mono ?_;rintro e w' ⟨rfl,rfl⟩)|(go_at_call 214;refine (q9 HF _ (v9 s st) ((q9 H).stepped (q9 hK1) (q9 hr1)) hop).mono ?_;rintro e w2 ⟨hk2,h2⟩;rw [q9 HRES] at h2;subst h2;refine gone (w:=w2) ⟨rfl,(q9 hK1).trans ((Kept.refl rb w1).drew.trans hk2),rfl⟩ ?_))
  all_goals trivial
end Go.Proofs.YtfkcaldjphakpabGreatDoor
