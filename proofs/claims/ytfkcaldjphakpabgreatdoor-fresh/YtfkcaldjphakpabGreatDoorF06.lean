/- between. keyword, over what reads on from IN and from LIKE. -/
import Derived.Test.YtfkcaldjphakpabGreatDoorF05
namespace Go.Proofs.YtfkcaldjphakpabGreatDoor
open Go.RowKit
section
def qd2 (s:ByteArray) (f:St→Res) (l:Ast) (st:St):Res:=if st.tk.kind=10 then (match f (v9 s st) with
  | .ok lo st1=>if st1.tk.kind=5 then (match f (v9 s st1) with
    | .ok hi st2=>.ok (.tri ⟨20,st.place,0,[],[],[]⟩ l lo hi) st2
    | .err en pl=>.err en pl) else .err 2 st1.place
  | .err en pl=>.err en pl) else .err 2 st.place
theorem IsNode.three {rb:Nat} {w:World} {x y z:Ast} {xv yv zv:Value} (hx:IsNode rb w xv x) (hy:IsNode rb w yv y) (hz:IsNode rb w zv z) (hlt:rb<w.heap.size) (op place:Int) :
  IsNode rb ((w.alloc (.cells #[xv,yv,zv] 74)).alloc (.cells #[.int .i64 op,.int .i64 place,.slice (some ⟨w.heap.size,0,none⟩) 3 3,.int .i64 0,.string ⟨#[]⟩,.string ⟨#[]⟩,.slice none 0 0] 138))
   (.pointer (some ⟨w.heap.size+1,0,none⟩)) (.tri ⟨op,place,0,[],[],[]⟩ x y z):=by
 have hk:Kept rb w ((w.alloc (.cells #[xv,yv,zv] 74)).alloc (.cells #[.int .i64 op,.int .i64 place,.slice (some ⟨w.heap.size,0,none⟩) 3 3,.int .i64 0,.string ⟨#[]⟩,.string ⟨#[]⟩,.slice none 0 0] 138)):=((Kept.refl rb w).alloc _).alloc _
 refine ⟨w.heap.size+1,w.heap.size,xv,yv,zv,rfl,⟨by omega,by simp,by simp,by simp,by simp,by simp,by simp [BS],by simp [BS],.slice none 0 0,by simp,.inl ⟨rfl,rfl⟩⟩,hlt,by simp;omega, ?_, ?_, ?_,hx.kept hk,hy.kept hk,hz.kept hk⟩
 ·rw [World.cell?_alloc_past _ _ _ (by simp),World.cell?_alloc_at _ _ _ _ rfl];rfl
 ·rw [World.cell?_alloc_past _ _ _ (by simp),World.cell?_alloc_at _ _ _ _ rfl];rfl
 ·rw [World.cell?_alloc_past _ _ _ (by simp),World.cell?_alloc_at _ _ _ _ rfl];rfl
set_option maxHeartbeats 1000000 in
theorem jg1 (rb:Nat) (s:ByteArray) (op:Nat) (f:St→Res) (hf:qe8 214 rb s op f) (l:Ast) (lv:Value) (w:World) (st:St) (h:Ready rb s w st) (ho:st.op=op) (hl:IsNode rb w lv l) :
  Calls Tryz.prog 256 #[.pointer (some ⟨rb,0,none⟩),lv] w (Gives rb s w op st.place (qd2 s f l st)):=by
 have H:=v7 h
 have HF:=v7 hf
 have hlt:=h.lt
 obtain ⟨lb,rfl⟩:=hl.ptr
 have HL:=v7 hl
 clear hl hf
 by_cases h10:st.tk.kind=10
 ·rw [qd2,if_pos h10]
  have hle1:=h.fine.le (by rw [h10];decide)
  have hf1:=h.fine.next
  have H10:=v7 h10
  have R1:Hid (∀w1,Kept rb w w1→RdAt w1 rb s (v9 s st)→Ready rb s w1 (v9 s st)):=v7 fun w1 hk hr=>h.kept hk hr hf1
  have ho1:(v9 s st).op=op:=ho
  clear h h10 hf1
  cases hr1:f (v9 s st) with
  | err en pl=>
   have HR1:=v7 hr1
   clear hr1
   go_enter Tryz.func256,Tryz.ntmps256
   go_wp2_with (first|(go_at_call_of 57 (Value.int IntKind.i64 10);refine (qb2 rb s st 10 _ (q9 H).size (q9 H).fine.after (q9 H).at' hlt (q9 H).err (q9 H10)).mono ?_;rintro e w1 ⟨rfl,hr1,hk1⟩;have hz1:=hk1.size;have n1:¬w1.heap.size=rb:=(by omega);have hR1:=v7 ((q9 R1 _ hk1 hr1).allocd (.cells #[.int .i64 st.tk.kind,.int .i64 st.place,.int .i64 st.tk.num,.string (BS st.tk.str)] 127));have hK1:=v7 (hk1.alloc (.cells #[.int .i64 st.tk.kind,.int .i64 st.place,.int .i64 st.tk.num,.string (BS st.tk.str)] 127));clear hr1 hk1;simp only [tkV])|(go_at_call 214;refine (q9 HF _ (v9 s st) (q9 hR1) ho1).mono ?_;rintro e w2 ⟨hk2,h2⟩;rw [q9 HR1] at h2;subst h2;simp only [x4]))
   exact ⟨rfl,(q9 hK1).trans hk2,rfl⟩
  | ok lo st1=>
   have HR1:=v7 hr1
   clear hr1
   by_cases h5:st1.tk.kind=5
   ·simp only [if_pos h5]
    have H5:=v7 h5
    have H50:Hid (st1.tk.kind≠0):=v7 (by rw [h5];decide)
    clear h5
    cases hr2:f (v9 s st1) with
    | err en pl=>
     have HR2:=v7 hr2
     clear hr2
     go_enter Tryz.func256,Tryz.ntmps256
     go_wp2_with (first|(go_at_call_of 57 (Value.int IntKind.i64 10);refine (qb2 rb s st 10 _ (q9 H).size (q9 H).fine.after (q9 H).at' hlt (q9 H).err (q9 H10)).mono ?_;rintro e w1 ⟨rfl,hr1,hk1⟩;have hz1:=hk1.size;have n1:¬w1.heap.size=rb:=(by omega);have hR1:=v7 ((q9 R1 _ hk1 hr1).allocd (.cells #[.int .i64 st.tk.kind,.int .i64 st.place,.int .i64 st.tk.num,.string (BS st.tk.str)] 127));have hK1:=v7 (hk1.alloc (.cells #[.int .i64 st.tk.kind,.int .i64 st.place,.int .i64 st.tk.num,.string (BS st.tk.str)] 127));clear hr1 hk1;simp only [tkV])|(go_at_call 214;refine (q9 HF _ (v9 s st) (q9 hR1) ho1).mono ?_;rintro e w2 ⟨hk2,h2⟩;rw [q9 HR1] at h2;obtain ⟨v2,rfl,hn2,hr2,hf2,ho2,hp2⟩:=h2;obtain ⟨vb,rfl⟩:=hn2.ptr;have hz2:w1.heap.size<w2.heap.size:=(by have:=hk2.size;simp at this;omega);have q2:w2.cell? ⟨w1.heap.size,1,none⟩=some (.int .i64 st.place):=((x5 hk2).1 _ 1 (by simp) n1).trans (by simp);have hK2:=v7 ((q9 hK1).trans hk2);have hR2:=v7 ((q9 H).kept ((q9 hK1).trans hk2) hr2 hf2);have hn2:=v7 hn2;have hf2:=v7 hf2;clear hr2 hk2)|(go_at_call_of 57 (Value.int IntKind.i64 5);refine (qb2 rb s st1 5 _ (q9 hR2).size (q9 hR2).fine.after (q9 hR2).at' (q9 hR2).lt (q9 hR2).err (q9 H5)).mono ?_;rintro e w3 ⟨rfl,hr3,hk3⟩;have hz3:w1.heap.size<w3.heap.size:=(by have:=hk3.size;omega);have q3:w3.cell? ⟨w1.heap.size,1,none⟩=some (.int .i64 st.place):=((x5 hk3).1 _ 1 hz2 n1).trans q2;have hn3:=v7 ((q9 hn2).kept hk3);have hK3:=v7 ((q9 hK2).trans hk3);have hR3:=v7 ((q9 hR2).stepped hk3 hr3);clear hr3 hk3;simp only [tkV]))
     have ho3:(v9 s st1).op=op:=ho2
     go_region_with (first|(go_at_call 214;refine (q9 HF _ (v9 s st1) (q9 hR3) ho3).mono ?_;rintro e w4 ⟨hk4,h4⟩;rw [q9 HR2] at h4;subst h4;refine gone (w:=w4) ⟨rfl,(q9 hK3).trans ((Kept.refl rb w3).drew.trans hk4),rfl⟩ ?_))
     all_goals trivial
    | ok hi st2=>
     have HR2:=v7 hr2
     clear hr2
     go_enter Tryz.func256,Tryz.ntmps256
     go_wp2_with (first|(go_at_call_of 57 (Value.int IntKind.i64 10);refine (qb2 rb s st 10 _ (q9 H).size (q9 H).fine.after (q9 H).at' hlt (q9 H).err (q9 H10)).mono ?_;rintro e w1 ⟨rfl,hr1,hk1⟩;have hz1:=hk1.size;have n1:¬w1.heap.size=rb:=(by omega);have hR1:=v7 ((q9 R1 _ hk1 hr1).allocd (.cells #[.int .i64 st.tk.kind,.int .i64 st.place,.int .i64 st.tk.num,.string (BS st.tk.str)] 127));have hK1:=v7 (hk1.alloc (.cells #[.int .i64 st.tk.kind,.int .i64 st.place,.int .i64 st.tk.num,.string (BS st.tk.str)] 127));clear hr1 hk1;simp only [tkV])|(go_at_call 214;refine (q9 HF _ (v9 s st) (q9 hR1) ho1).mono ?_;rintro e w2 ⟨hk2,h2⟩;rw [q9 HR1] at h2;obtain ⟨v2,rfl,hn2,hr2,hf2,ho2,hp2⟩:=h2;obtain ⟨vb,rfl⟩:=hn2.ptr;have hz2:w1.heap.size<w2.heap.size:=(by have:=hk2.size;simp at this;omega);have q2:w2.cell? ⟨w1.heap.size,1,none⟩=some (.int .i64 st.place):=((x5 hk2).1 _ 1 (by simp) n1).trans (by simp);have hK2:=v7 ((q9 hK1).trans hk2);have hR2:=v7 ((q9 H).kept ((q9 hK1).trans hk2) hr2 hf2);have hn2:=v7 hn2;have hf2:=v7 hf2;clear hr2 hk2)|(go_at_call_of 57 (Value.int IntKind.i64 5);refine (qb2 rb s st1 5 _ (q9 hR2).size (q9 hR2).fine.after (q9 hR2).at' (q9 hR2).lt (q9 hR2).err (q9 H5)).mono ?_;rintro e w3 ⟨rfl,hr3,hk3⟩;have hz3:w1.heap.size<w3.heap.size:=(by have:=hk3.size;omega);have q3:w3.cell? ⟨w1.heap.size,1,none⟩=some (.int .i64 st.place):=((x5 hk3).1 _ 1 hz2 n1).trans q2;have hn3:=v7 ((q9 hn2).kept hk3);have hK3:=v7 ((q9 hK2).trans hk3);have hR3:=v7 ((q9 hR2).stepped hk3 hr3);clear hr3 hk3;simp only [tkV]))
     have ho3:(v9 s st1).op=op:=ho2
     go_region_held3 (fun w'=>w'.cell? ⟨w1.heap.size,1,none⟩=some (.int .i64 st.place)) (go_keep) (first|(go_at_call 214;refine (q9 HF _ (v9 s st1) (q9 hR3) ho3).mono ?_;rintro e w4 ⟨hk4,h4⟩;rw [q9 HR2] at h4;obtain ⟨v4,rfl,hn4,hr4,hf4,ho4,hp4⟩:=h4;obtain ⟨vc,rfl⟩:=hn4.ptr;have q4:w4.cell? ⟨w1.heap.size,1,none⟩=some (.int .i64 st.place):=((x5 hk4).1 _ 1 hz3 n1).trans q3;have hz4:w1.heap.size<w4.heap.size:=Nat.lt_of_lt_of_le hz3 hk4.size;have hk4:=v7 hk4;have hn4:=v7 hn4;have hr4:=v7 hr4;have hf4:=v7 hf4))
     go_wp2_with fail
     go_ret
     have hK4:=(q9 hK3).trans ((Kept.refl rb w3).drew.trans (q9 hk4))
     have hlt4:rb<w4.heap.size:=Nat.lt_of_lt_of_le hlt hK4.size
     refine ⟨(hK4.alloc _).alloc _,_,rfl,IsNode.three ((q9 HL).kept hK4) ((q9 hn3).kept ((Kept.refl rb w3).drew.trans (q9 hk4))) (q9 hn4) hlt4 20 st.place,((q9 hr4).allocd _ hlt4).allocd _ (by simp;omega),q9 hf4,ho4, ?_⟩
     have h1:=(q9 hf2).le (q9 H50)
     omega
   ·simp only [if_neg h5]
    have H5:=v7 h5
    clear h5
    go_enter Tryz.func256,Tryz.ntmps256
    go_wp2_with (first|(go_at_call_of 57 (Value.int IntKind.i64 10);refine (qb2 rb s st 10 _ (q9 H).size (q9 H).fine.after (q9 H).at' hlt (q9 H).err (q9 H10)).mono ?_;rintro e w1 ⟨rfl,hr1,hk1⟩;have hz1:=hk1.size;have n1:¬w1.heap.size=rb:=(by omega);have hR1:=v7 ((q9 R1 _ hk1 hr1).allocd (.cells #[.int .i64 st.tk.kind,.int .i64 st.place,.int .i64 st.tk.num,.string (BS st.tk.str)] 127));have hK1:=v7 (hk1.alloc (.cells #[.int .i64 st.tk.kind,.int .i64 st.place,.int .i64 st.tk.num,.string (BS st.tk.str)] 127));clear hr1 hk1;simp only [tkV])|(go_at_call 214;refine (q9 HF _ (v9 s st) (q9 hR1) ho1).mono ?_;rintro e w2 ⟨hk2,h2⟩;rw [q9 HR1] at h2;obtain ⟨v2,rfl,hn2,hr2,hf2,ho2,hp2⟩:=h2;obtain ⟨vb,rfl⟩:=hn2.ptr;have hz2:w1.heap.size<w2.heap.size:=(by have:=hk2.size;simp at this;omega);have q2:w2.cell? ⟨w1.heap.size,1,none⟩=some (.int .i64 st.place):=((x5 hk2).1 _ 1 (by simp) n1).trans (by simp);have hK2:=v7 ((q9 hK1).trans hk2);have hR2:=v7 ((q9 H).kept ((q9 hK1).trans hk2) hr2 hf2);have hn2:=v7 hn2;have hf2:=v7 hf2;clear hr2 hk2)|(go_at_call_of 57 (Value.int IntKind.i64 5);refine (qm8 rb s st1 5 _ (q9 hR2).at' (q9 hR2).lt (q9 H5)).mono ?_;rintro e w3 ⟨rfl,hk3⟩;simp only [x4]))
    exact ⟨rfl,(q9 hK2).trans hk3,rfl⟩
 ·rw [qd2,if_neg h10]
  have H10:=v7 h10
  clear h h10
  go_enter Tryz.func256,Tryz.ntmps256
  go_wp2_with (go_at_call 57;refine (qm8 rb s st 10 _ (q9 H).at' hlt (q9 H10)).mono ?_;rintro e w1 ⟨rfl,hk1⟩;simp only [x4])
  exact ⟨rfl,hk1,rfl⟩
end
section
def qk2 (K:Nat) (rb:Nat) (s:ByteArray) (op:Nat) (k:Int) (g:Ast→St→Res):Prop:=
 ∀(w:World) (st:St) (l:Ast) (lv:Value),Ready rb s w st→st.op=op→IsNode rb w lv l→st.tk.kind=k→Calls Tryz.prog K #[.pointer (some ⟨rb,0,none⟩),lv] w (Gives rb s w op st.place (g l st))
def y5 (s:ByteArray) (f:St→Res) (gI gL:Ast→St→Res) (bare:Bool) (l:Ast) (st:St):Res:=
 if st.tk.kind=11∧bare=true then gI l st else if st.tk.kind=12∧bare=true then gL l st else qd2 s f l st
set_option maxHeartbeats 1000000 in
theorem qj7 (rb:Nat) (s:ByteArray) (op:Nat) (f:St→Res) (gI gL:Ast→St→Res) (hf:qe8 214 rb s op f) (hI:qk2 254 rb s op 11 gI) (hL:qk2 255 rb s op 12 gL)
  (bare:Bool) (w:World) (st:St) (l:Ast) (lv:Value) (h:Ready rb s w st) (ho:st.op=op) (hl:IsNode rb w lv l) :
  Calls Tryz.prog 216 #[.pointer (some ⟨rb,0,none⟩),lv,.bool bare] w (Gives rb s w op st.place (y5 s f gI gL bare l st)):=by
 obtain ⟨c0,c1,c2,c3,c4,c5,c6,fz⟩:=h.at'
 have BET:=v7 (jg1 rb s op f hf l lv w st h ho hl)
 have INN:Hid (st.tk.kind=11→Calls Tryz.prog 254 #[.pointer (some ⟨rb,0,none⟩),lv] w (Gives rb s w op st.place (gI l st))):=v7 fun hk=>hI w st l lv h ho hl hk
 have LIK:Hid (st.tk.kind=12→Calls Tryz.prog 255 #[.pointer (some ⟨rb,0,none⟩),lv] w (Gives rb s w op st.place (gL l st))):=v7 fun hk=>hL w st l lv h ho hl hk
 clear h hl hf hI hL
 by_cases h11:st.tk.kind=11
 ·have e11:(st.tk.kind==11)=true:=by rw [h11];rfl
  have e12:(st.tk.kind==12)=false:=by rw [h11];rfl
  have HK:=v7 h11
  cases bare with
  | false=>
   rw [y5,if_neg (by simp),if_neg (by simp)]
   clear h11
   go_enter Tryz.func216,Tryz.ntmps216
   go_wp2_with (go_at_call 256;refine (q9 BET).mono ?_;rintro e w' hg;rcases hg.cases with ⟨v,rfl,hg⟩|⟨en,pl,rfl,hg⟩;rotate_left;(exact ⟨rfl,hg⟩);have HG:=v7 hg;clear hg)
   go_ret
   exact q9 HG
  | true=>
   rw [y5,if_pos ⟨h11,rfl⟩]
   clear h11
   go_enter Tryz.func216,Tryz.ntmps216
   go_wp2_with (go_at_call 254;refine (q9 INN (q9 HK)).mono ?_;rintro e w' hg;rcases hg.cases with ⟨v,rfl,hg⟩|⟨en,pl,rfl,hg⟩;rotate_left;(exact ⟨rfl,hg⟩);have HG:=v7 hg;clear hg)
   go_ret
   exact q9 HG
 ·have e11:(st.tk.kind==11)=false:=beq_eq_false_iff_ne.2 h11
  by_cases h12:st.tk.kind=12
  ·have e12:(st.tk.kind==12)=true:=by rw [h12];rfl
   have HK:=v7 h12
   cases bare with
   | false=>
    rw [y5,if_neg (by simp),if_neg (by simp)]
    clear h11 h12
    go_enter Tryz.func216,Tryz.ntmps216
    go_wp2_with (go_at_call 256;refine (q9 BET).mono ?_;rintro e w' hg;rcases hg.cases with ⟨v,rfl,hg⟩|⟨en,pl,rfl,hg⟩;rotate_left;(exact ⟨rfl,hg⟩);have HG:=v7 hg;clear hg)
    go_ret
    exact q9 HG
   | true=>
    rw [y5,if_neg (fun h=>h11 h.1),if_pos ⟨h12,rfl⟩]
    clear h11 h12
    go_enter Tryz.func216,Tryz.ntmps216
    go_wp2_with (go_at_call 255;refine (q9 LIK (q9 HK)).mono ?_;rintro e w' hg;rcases hg.cases with ⟨v,rfl,hg⟩|⟨en,pl,rfl,hg⟩;rotate_left;(exact ⟨rfl,hg⟩);have HG:=v7 hg;clear hg)
    go_ret
    exact q9 HG
  ·have e12:(st.tk.kind==12)=false:=beq_eq_false_iff_ne.2 h12
   rw [y5,if_neg (fun h=>h11 h.1),if_neg (fun h=>h12 h.1)]
   clear h11 h12
   cases bare with
   | false=>
    go_enter Tryz.func216,Tryz.ntmps216
    go_wp2_with (go_at_call 256;refine (q9 BET).mono ?_;rintro e w' hg;rcases hg.cases with ⟨v,rfl,hg⟩|⟨en,pl,rfl,hg⟩;rotate_left;(exact ⟨rfl,hg⟩);have HG:=v7 hg;clear hg)
    go_ret
    exact q9 HG
   | true=>
    go_enter Tryz.func216,Tryz.ntmps216
    go_wp2_with (go_at_call 256;refine (q9 BET).mono ?_;rintro e w' hg;rcases hg.cases with ⟨v,rfl,hg⟩|⟨en,pl,rfl,hg⟩;rotate_left;(exact ⟨rfl,hg⟩);have HG:=v7 hg;clear hg)
    go_ret
    exact q9 HG
end
end Go.Proofs.YtfkcaldjphakpabGreatDoor
