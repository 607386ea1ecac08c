/- between. keyword, over what reads on from IN and from LIKE. in. escape. like. test, over what reads on from IN and from LIKE. test: all kinds of what comes behind the first sum. All levels of the reader together. -/
import Derived.Test.YtfkcaldjphakpaaGreatDoorM05
import Derived.Test.YtfkcaldjphakpaaGreatDoorM04
import Derived.Test.YtfkcaldjphakpaaGreatDoorM07
import Derived.Test.YtfkcaldjphakpaaGreatDoorM08
set_option maxHeartbeats 4000000
set_option maxRecDepth 100000
namespace Go.Proofs.YtfkcaldjphakpaaGreatDoor
open Go.RowKit
section
def qa8 (s:ByteArray) (f:St→Res) (l:Ast) (st:St):Res:=if st.tk.kind=10 then (match f (j3 s st) with
  | .ok lo st1=>if st1.tk.kind=5 then (match f (j3 s st1) with
    | .ok hi st2=>.ok (.tri ⟨20,st.place,0,[],[],[]⟩ l lo hi) st2
    | .err en pl=>.err en pl) else .err 2 st1.place
  | .err en pl=>.err en pl) else .err 2 st.place
theorem IsNode.three {rb:Nat} {w:World} {x y z:Ast} {xv yv zv:Value} (hx:IsNode rb w xv x) (hy:IsNode rb w yv y) (hz:IsNode rb w zv z) (hlt:rb<w.heap.size) (op place:Int) :
  IsNode rb ((w.alloc (.cells #[xv,yv,zv] 67)).alloc (.cells #[.int .i64 op,.int .i64 place,.slice (some ⟨w.heap.size,0,none⟩) 3 3,.int .i64 0,.string ⟨#[]⟩,.string ⟨#[]⟩,.slice none 0 0] 102))
   (.pointer (some ⟨w.heap.size+1,0,none⟩)) (.tri ⟨op,place,0,[],[],[]⟩ x y z):=by
 have hk:Kept rb w ((w.alloc (.cells #[xv,yv,zv] 67)).alloc (.cells #[.int .i64 op,.int .i64 place,.slice (some ⟨w.heap.size,0,none⟩) 3 3,.int .i64 0,.string ⟨#[]⟩,.string ⟨#[]⟩,.slice none 0 0] 102)):=((Kept.refl rb w).alloc _).alloc _
 refine ⟨w.heap.size+1,w.heap.size,xv,yv,zv,rfl,⟨by omega,by simp,by simp,by simp,by simp,by simp,by simp [BS],by simp [BS],.slice none 0 0,by simp,.inl ⟨rfl,rfl⟩⟩,hlt,by simp;omega, ?_, ?_, ?_,hx.kept hk,hy.kept hk,hz.kept hk⟩
 ·rw [World.cell?_alloc_past _ _ _ (by simp),World.cell?_alloc_at _ _ _ _ rfl];rfl
 ·rw [World.cell?_alloc_past _ _ _ (by simp),World.cell?_alloc_at _ _ _ _ rfl];rfl
 ·rw [World.cell?_alloc_past _ _ _ (by simp),World.cell?_alloc_at _ _ _ _ rfl];rfl
theorem vy1 (rb:Nat) (s:ByteArray) (op:Nat) (f:St→Res) (hf:qg4 241 rb s op f) (l:Ast) (lv:Value) (w:World) (st:St) (h:Ready rb s w st) (ho:st.op=op) (hl:IsNode rb w lv l) :
  Calls Tryz.prog 270 #[.pointer (some ⟨rb,0,none⟩),lv] w (Gives rb s w op st.place (qa8 s f l st)):=by
 have H:=j4 h
 have HF:=j4 hf
 have hlt:=h.lt
 obtain ⟨lb,rfl⟩:=hl.ptr
 have HL:=j4 hl
 clear hl hf
 by_cases h10:st.tk.kind=10
 ·rw [qa8,if_pos h10]
  have hle1:=h.fine.le (by rw [h10];decide)
  have hf1:=h.fine.next
  have H10:=j4 h10
  have R1:Hid (∀w1,Kept rb w w1→RdAt w1 rb s (j3 s st)→Ready rb s w1 (j3 s st)):=j4 fun w1 hk hr=>h.kept hk hr hf1
  have ho1:(j3 s st).op=op:=ho
  clear h h10 hf1
  cases hr1:f (j3 s st) with
  | err en pl=>
   have HR1:=j4 hr1
   clear hr1
   go_enter Tryz.func270,Tryz.ntmps270
   go_wp2_with (first|(go_at_call_of 56 (Value.int IntKind.i64 10);refine (qd1 rb s st 10 _ (q9 H).size (q9 H).fine.after (q9 H).at' hlt (q9 H).err (q9 H10)).mono ?_;rintro e w1 ⟨rfl,hr1,hk1⟩;have hz1:=hk1.size;have n1:¬w1.heap.size=rb:=(by omega);have hR1:=j4 ((q9 R1 _ hk1 hr1).allocd (.cells #[.int .i64 st.tk.kind,.int .i64 st.place,.int .i64 st.tk.num,.string (BS st.tk.str)] 91));have hK1:=j4 (hk1.alloc (.cells #[.int .i64 st.tk.kind,.int .i64 st.place,.int .i64 st.tk.num,.string (BS st.tk.str)] 91));clear hr1 hk1;simp only [tkV])|(go_at_call 241;refine (q9 HF _ (j3 s st) (q9 hR1) ho1).mono ?_;rintro e w2 ⟨hk2,h2⟩;rw [q9 HR1] at h2;subst h2;simp only [qb4]))
   exact ⟨rfl,(q9 hK1).trans hk2,rfl⟩
  | ok lo st1=>
   have HR1:=j4 hr1
   clear hr1
   by_cases h5:st1.tk.kind=5
   ·simp only [if_pos h5]
    have H5:=j4 h5
    have H50:Hid (st1.tk.kind≠0):=j4 (by rw [h5];decide)
    clear h5
    cases hr2:f (j3 s st1) with
    | err en pl=>
     have HR2:=j4 hr2
     clear hr2
     go_enter Tryz.func270,Tryz.ntmps270
     go_wp2_with (first|(go_at_call_of 56 (Value.int IntKind.i64 10);refine (qd1 rb s st 10 _ (q9 H).size (q9 H).fine.after (q9 H).at' hlt (q9 H).err (q9 H10)).mono ?_;rintro e w1 ⟨rfl,hr1,hk1⟩;have hz1:=hk1.size;have n1:¬w1.heap.size=rb:=(by omega);have hR1:=j4 ((q9 R1 _ hk1 hr1).allocd (.cells #[.int .i64 st.tk.kind,.int .i64 st.place,.int .i64 st.tk.num,.string (BS st.tk.str)] 91));have hK1:=j4 (hk1.alloc (.cells #[.int .i64 st.tk.kind,.int .i64 st.place,.int .i64 st.tk.num,.string (BS st.tk.str)] 91));clear hr1 hk1;simp only [tkV])|(go_at_call 241;refine (q9 HF _ (j3 s st) (q9 hR1) ho1).mono ?_;rintro e w2 ⟨hk2,h2⟩;rw [q9 HR1] at h2;obtain ⟨v2,rfl,hn2,hr2,hf2,ho2,hp2⟩:=h2;obtain ⟨vb,rfl⟩:=hn2.ptr;have hz2:w1.heap.size<w2.heap.size:=(by have:=hk2.size;simp at this;omega);have q2:w2.cell? ⟨w1.heap.size,1,none⟩=some (.int .i64 st.place):=((qc2 hk2).1 _ 1 (by simp) n1).trans (by simp);have hK2:=j4 ((q9 hK1).trans hk2);have hR2:=j4 ((q9 H).kept ((q9 hK1).trans hk2) hr2 hf2);have hn2:=j4 hn2;have hf2:=j4 hf2;clear hr2 hk2)|(go_at_call_of 56 (Value.int IntKind.i64 5);refine (qd1 rb s st1 5 _ (q9 hR2).size (q9 hR2).fine.after (q9 hR2).at' (q9 hR2).lt (q9 hR2).err (q9 H5)).mono ?_;rintro e w3 ⟨rfl,hr3,hk3⟩;have hz3:w1.heap.size<w3.heap.size:=(by have:=hk3.size;omega);have q3:w3.cell? ⟨w1.heap.size,1,none⟩=some (.int .i64 st.place):=((qc2 hk3).1 _ 1 hz2 n1).trans q2;have hn3:=j4 ((q9 hn2).kept hk3);have hK3:=j4 ((q9 hK2).trans hk3);have hR3:=j4 ((q9 hR2).stepped hk3 hr3);clear hr3 hk3;simp only [tkV]))
     have ho3:(j3 s st1).op=op:=ho2
     go_region_with (first|(go_at_call 241;refine (q9 HF _ (j3 s st1) (q9 hR3) ho3).mono ?_;rintro e w4 ⟨hk4,h4⟩;rw [q9 HR2] at h4;subst h4;refine gone (w:=w4) ⟨rfl,(q9 hK3).trans ((Kept.refl rb w3).drew.trans hk4),rfl⟩ ?_))
     all_goals trivial
    | ok hi st2=>
     have HR2:=j4 hr2
     clear hr2
     go_enter Tryz.func270,Tryz.ntmps270
     go_wp2_with (first|(go_at_call_of 56 (Value.int IntKind.i64 10);refine (qd1 rb s st 10 _ (q9 H).size (q9 H).fine.after (q9 H).at' hlt (q9 H).err (q9 H10)).mono ?_;rintro e w1 ⟨rfl,hr1,hk1⟩;have hz1:=hk1.size;have n1:¬w1.heap.size=rb:=(by omega);have hR1:=j4 ((q9 R1 _ hk1 hr1).allocd (.cells #[.int .i64 st.tk.kind,.int .i64 st.place,.int .i64 st.tk.num,.string (BS st.tk.str)] 91));have hK1:=j4 (hk1.alloc (.cells #[.int .i64 st.tk.kind,.int .i64 st.place,.int .i64 st.tk.num,.string (BS st.tk.str)] 91));clear hr1 hk1;simp only [tkV])|(go_at_call 241;refine (q9 HF _ (j3 s st) (q9 hR1) ho1).mono ?_;rintro e w2 ⟨hk2,h2⟩;rw [q9 HR1] at h2;obtain ⟨v2,rfl,hn2,hr2,hf2,ho2,hp2⟩:=h2;obtain ⟨vb,rfl⟩:=hn2.ptr;have hz2:w1.heap.size<w2.heap.size:=(by have:=hk2.size;simp at this;omega);have q2:w2.cell? ⟨w1.heap.size,1,none⟩=some (.int .i64 st.place):=((qc2 hk2).1 _ 1 (by simp) n1).trans (by simp);have hK2:=j4 ((q9 hK1).trans hk2);have hR2:=j4 ((q9 H).kept ((q9 hK1).trans hk2) hr2 hf2);have hn2:=j4 hn2;have hf2:=j4 hf2;clear hr2 hk2)|(go_at_call_of 56 (Value.int IntKind.i64 5);refine (qd1 rb s st1 5 _ (q9 hR2).size (q9 hR2).fine.after (q9 hR2).at' (q9 hR2).lt (q9 hR2).err (q9 H5)).mono ?_;rintro e w3 ⟨rfl,hr3,hk3⟩;have hz3:w1.heap.size<w3.heap.size:=(by have:=hk3.size;omega);have q3:w3.cell? ⟨w1.heap.size,1,none⟩=some (.int .i64 st.place):=((qc2 hk3).1 _ 1 hz2 n1).trans q2;have hn3:=j4 ((q9 hn2).kept hk3);have hK3:=j4 ((q9 hK2).trans hk3);have hR3:=j4 ((q9 hR2).stepped hk3 hr3);clear hr3 hk3;simp only [tkV]))
     have ho3:(j3 s st1).op=op:=ho2
     go_region_held3 (fun w'=>w'.cell? ⟨w1.heap.size,1,none⟩=some (.int .i64 st.place)) (go_keep) (first|(go_at_call 241;refine (q9 HF _ (j3 s st1) (q9 hR3) ho3).mono ?_;rintro e w4 ⟨hk4,h4⟩;rw [q9 HR2] at h4;obtain ⟨v4,rfl,hn4,hr4,hf4,ho4,hp4⟩:=h4;obtain ⟨vc,rfl⟩:=hn4.ptr;have q4:w4.cell? ⟨w1.heap.size,1,none⟩=some (.int .i64 st.place):=((qc2 hk4).1 _ 1 hz3 n1).trans q3;have hz4:w1.heap.size<w4.heap.size:=Nat.lt_of_lt_of_le hz3 hk4.size;have hk4:=j4 hk4;have hn4:=j4 hn4;have hr4:=j4 hr4;have hf4:=j4 hf4))
     go_wp2_with fail
     go_ret
     have hK4:=(q9 hK3).trans ((Kept.refl rb w3).drew.trans (q9 hk4))
     have hlt4:rb<w4.heap.size:=Nat.lt_of_lt_of_le hlt hK4.size
     refine ⟨(hK4.alloc _).alloc _,_,rfl,IsNode.three ((q9 HL).kept hK4) ((q9 hn3).kept ((Kept.refl rb w3).drew.trans (q9 hk4))) (q9 hn4) hlt4 20 st.place,((q9 hr4).allocd _ hlt4).allocd _ (by simp;omega),q9 hf4,ho4, ?_⟩
     have h1:=(q9 hf2).le (q9 H50)
     omega
   ·simp only [if_neg h5]
    have H5:=j4 h5
    clear h5
    go_enter Tryz.func270,Tryz.ntmps270
    go_wp2_with (first|(go_at_call_of 56 (Value.int IntKind.i64 10);refine (qd1 rb s st 10 _ (q9 H).size (q9 H).fine.after (q9 H).at' hlt (q9 H).err (q9 H10)).mono ?_;rintro e w1 ⟨rfl,hr1,hk1⟩;have hz1:=hk1.size;have n1:¬w1.heap.size=rb:=(by omega);have hR1:=j4 ((q9 R1 _ hk1 hr1).allocd (.cells #[.int .i64 st.tk.kind,.int .i64 st.place,.int .i64 st.tk.num,.string (BS st.tk.str)] 91));have hK1:=j4 (hk1.alloc (.cells #[.int .i64 st.tk.kind,.int .i64 st.place,.int .i64 st.tk.num,.string (BS st.tk.str)] 91));clear hr1 hk1;simp only [tkV])|(go_at_call 241;refine (q9 HF _ (j3 s st) (q9 hR1) ho1).mono ?_;rintro e w2 ⟨hk2,h2⟩;rw [q9 HR1] at h2;obtain ⟨v2,rfl,hn2,hr2,hf2,ho2,hp2⟩:=h2;obtain ⟨vb,rfl⟩:=hn2.ptr;have hz2:w1.heap.size<w2.heap.size:=(by have:=hk2.size;simp at this;omega);have q2:w2.cell? ⟨w1.heap.size,1,none⟩=some (.int .i64 st.place):=((qc2 hk2).1 _ 1 (by simp) n1).trans (by simp);have hK2:=j4 ((q9 hK1).trans hk2);have hR2:=j4 ((q9 H).kept ((q9 hK1).trans hk2) hr2 hf2);have hn2:=j4 hn2;have hf2:=j4 hf2;clear hr2 hk2)|(go_at_call_of 56 (Value.int IntKind.i64 5);refine (qn4 rb s st1 5 _ (q9 hR2).at' (q9 hR2).lt (q9 H5)).mono ?_;rintro e w3 ⟨rfl,hk3⟩;simp only [qb4]))
    exact ⟨rfl,(q9 hK2).trans hk3,rfl⟩
 ·rw [qa8,if_neg h10]
  have H10:=j4 h10
  clear h h10
  go_enter Tryz.func270,Tryz.ntmps270
  go_wp2_with (go_at_call 56;refine (qn4 rb s st 10 _ (q9 H).at' hlt (q9 H10)).mono ?_;rintro e w1 ⟨rfl,hk1⟩;simp only [qb4])
  exact ⟨rfl,hk1,rfl⟩
end
section
def qm1 (K:Nat) (rb:Nat) (s:ByteArray) (op:Nat) (k:Int) (g:Ast→St→Res):Prop:=
 ∀(w:World) (st:St) (l:Ast) (lv:Value),Ready rb s w st→st.op=op→IsNode rb w lv l→st.tk.kind=k→Calls Tryz.prog K #[.pointer (some ⟨rb,0,none⟩),lv] w (Gives rb s w op st.place (g l st))
def qb1 (s:ByteArray) (f:St→Res) (gI gL:Ast→St→Res) (bare:Bool) (l:Ast) (st:St):Res:=
 if st.tk.kind=11∧bare=true then gI l st else if st.tk.kind=12∧bare=true then gL l st else qa8 s f l st
theorem qk5 (rb:Nat) (s:ByteArray) (op:Nat) (f:St→Res) (gI gL:Ast→St→Res) (hf:qg4 241 rb s op f) (hI:qm1 268 rb s op 11 gI) (hL:qm1 269 rb s op 12 gL)
  (bare:Bool) (w:World) (st:St) (l:Ast) (lv:Value) (h:Ready rb s w st) (ho:st.op=op) (hl:IsNode rb w lv l) :
  Calls Tryz.prog 243 #[.pointer (some ⟨rb,0,none⟩),lv,.bool bare] w (Gives rb s w op st.place (qb1 s f gI gL bare l st)):=by
 obtain ⟨c0,c1,c2,c3,c4,c5,c6,fz⟩:=h.at'
 have BET:=j4 (vy1 rb s op f hf l lv w st h ho hl)
 have INN:Hid (st.tk.kind=11→Calls Tryz.prog 268 #[.pointer (some ⟨rb,0,none⟩),lv] w (Gives rb s w op st.place (gI l st))):=j4 fun hk=>hI w st l lv h ho hl hk
 have LIK:Hid (st.tk.kind=12→Calls Tryz.prog 269 #[.pointer (some ⟨rb,0,none⟩),lv] w (Gives rb s w op st.place (gL l st))):=j4 fun hk=>hL w st l lv h ho hl hk
 clear h hl hf hI hL
 by_cases h11:st.tk.kind=11
 ·have e11:(st.tk.kind==11)=true:=by rw [h11];rfl
  have e12:(st.tk.kind==12)=false:=by rw [h11];rfl
  have HK:=j4 h11
  cases bare with
  | false=>
   rw [qb1,if_neg (by simp),if_neg (by simp)]
   clear h11
   go_enter Tryz.func243,Tryz.ntmps243
   go_wp2_with (go_at_call 270;refine (q9 BET).mono ?_;rintro e w' hg;rcases hg.cases with ⟨v,rfl,hg⟩|⟨en,pl,rfl,hg⟩;rotate_left;(exact ⟨rfl,hg⟩);have HG:=j4 hg;clear hg)
   go_ret
   exact q9 HG
  | true=>
   rw [qb1,if_pos ⟨h11,rfl⟩]
   clear h11
   go_enter Tryz.func243,Tryz.ntmps243
   go_wp2_with (go_at_call 268;refine (q9 INN (q9 HK)).mono ?_;rintro e w' hg;rcases hg.cases with ⟨v,rfl,hg⟩|⟨en,pl,rfl,hg⟩;rotate_left;(exact ⟨rfl,hg⟩);have HG:=j4 hg;clear hg)
   go_ret
   exact q9 HG
 ·have e11:(st.tk.kind==11)=false:=beq_eq_false_iff_ne.2 h11
  by_cases h12:st.tk.kind=12
  ·have e12:(st.tk.kind==12)=true:=by rw [h12];rfl
   have HK:=j4 h12
   cases bare with
   | false=>
    rw [qb1,if_neg (by simp),if_neg (by simp)]
    clear h11 h12
    go_enter Tryz.func243,Tryz.ntmps243
    go_wp2_with (go_at_call 270;refine (q9 BET).mono ?_;rintro e w' hg;rcases hg.cases with ⟨v,rfl,hg⟩|⟨en,pl,rfl,hg⟩;rotate_left;(exact ⟨rfl,hg⟩);have HG:=j4 hg;clear hg)
    go_ret
    exact q9 HG
   | true=>
    rw [qb1,if_neg (fun h=>h11 h.1),if_pos ⟨h12,rfl⟩]
    clear h11 h12
    go_enter Tryz.func243,Tryz.ntmps243
    go_wp2_with (go_at_call 269;refine (q9 LIK (q9 HK)).mono ?_;rintro e w' hg;rcases hg.cases with ⟨v,rfl,hg⟩|⟨en,pl,rfl,hg⟩;rotate_left;(exact ⟨rfl,hg⟩);have HG:=j4 hg;clear hg)
    go_ret
    exact q9 HG
  ·have e12:(st.tk.kind==12)=false:=beq_eq_false_iff_ne.2 h12
   rw [qb1,if_neg (fun h=>h11 h.1),if_neg (fun h=>h12 h.1)]
   clear h11 h12
   cases bare with
   | false=>
    go_enter Tryz.func243,Tryz.ntmps243
    go_wp2_with (go_at_call 270;refine (q9 BET).mono ?_;rintro e w' hg;rcases hg.cases with ⟨v,rfl,hg⟩|⟨en,pl,rfl,hg⟩;rotate_left;(exact ⟨rfl,hg⟩);have HG:=j4 hg;clear hg)
    go_ret
    exact q9 HG
   | true=>
    go_enter Tryz.func243,Tryz.ntmps243
    go_wp2_with (go_at_call 270;refine (q9 BET).mono ?_;rintro e w' hg;rcases hg.cases with ⟨v,rfl,hg⟩|⟨en,pl,rfl,hg⟩;rotate_left;(exact ⟨rfl,hg⟩);have HG:=j4 hg;clear hg)
    go_ret
    exact q9 HG
end
section
theorem vf5:(Tryz.prog.info? 9).map (fun i=>(i.zero,i.size,i.bytes))=some (some (.string ⟨#[]⟩),1,16):=by kernel_rfl
theorem vn7 {base e size n:Nat} {w:World} {v:Value} {xs:List Value} (h:w.ownsRow base e size v n xs):∃a m c,v=.slice a m c:=by
 rcases h.2 with ⟨rfl,_⟩|⟨g,cap,cur,rfl,_⟩
 ·exact ⟨_,_,_,rfl⟩
 ·exact ⟨_,_,_,rfl⟩
theorem in_more {rb B:Nat} {s:ByteArray} {w wr w5 w6:World} {sl2:St} {v v':Value} {ts:List (List UInt8)} {t:List UInt8} {o:Obj} {pv:Value}
  (hown':w6.ownsRow (B+1) 9 1 v' (ts.length+1) (qa0 ts++[.string (BS t)])) (hgrow:(w5.alloc o).grownBy w6 v.ownBlock) (hown:wr.ownsRow (B+1) 9 1 v ts.length (qa0 ts))
  (hr:RdAt w5 rb s sl2) (hlt:rb<w5.heap.size) (hk:Kept rb w wr) (hk5:Kept rb wr w5) (hcr:wr.cell? ⟨B,1,none⟩=some pv) (hBr:B<wr.heap.size) (hbase:rb<B) (hB:w.heap.size≤B) :
  w6.ownsRow (B+1) 9 1 v' (ts++[t]).length (qa0 (ts++[t]))∧RdAt w6 rb s sl2∧Kept rb w w6∧w6.cell? ⟨B,1,none⟩=some pv∧B<w6.heap.size:=by
 have hrow:∀k,v.ownBlock=some k→B+1≤k:=fun k hk'=>(hown.lt k hk').1
 have hz:=hk5.size
 have hg:=hgrow.size
 simp at hg
 refine ⟨by rw [List.length_append,qa0,List.map_append];exact hown',(hr.allocd o hlt).grown hgrow (by simp;omega) (fun k hk'=>by have:=hrow k hk';omega),((hk.trans hk5).alloc o).grown hgrow (fun k hk'=>by have:=hrow k hk';omega), ?_,by omega⟩
 refine hgrow.cell ?_ (fun e=>by have:=hrow B e.symm;omega)
 rw [World.cell?_alloc_past _ _ _ (by omega)]
 exact ((qc2 hk5).1 B 1 hBr (by omega)).trans hcr
theorem in_reads (rb:Nat) (s:ByteArray) (op:Nat) (hs:s.size≤200):qm1 268 rb s op 11 (qh5 s):=by
 intro w st l lv h ho hl h11
 have H:=j4 h
 have hlt:=h.lt
 have hle1:=h.fine.lt (by rw [h11];decide)
 have hf1:=h.fine.next
 have H11:=j4 h11
 obtain ⟨lb,rfl⟩:=hl.ptr
 have HL:=j4 hl
 have RK:Hid (∀w1 st1,Fine s st1→Kept rb w w1→RdAt w1 rb s st1→Ready rb s w1 st1):=j4 fun w1 st1 hf hk hr=>h.kept hk hr hf
 have HF1:=j4 hf1
 obtain ⟨i0,hi,hz0,hz1',hz2'⟩:=info_parts vf5
 clear h hl h11
 by_cases h26:(j3 s st).tk.kind=26
 ·rw [qh5,if_pos h26]
  have hle2:=hf1.lt (by rw [h26];decide)
  have HF2:=j4 hf1.next
  have H26:=j4 h26
  clear h26
  by_cases h4:(j3 s (j3 s st)).tk.kind=4
  ·rw [if_pos h4]
   have hle3:=hf1.next.lt (by rw [h4];decide)
   have HF3:=j4 hf1.next.next
   have H4:=j4 h4
   have FS:=fun b=>vs4 (j3 s (j3 s st)).tk.kind (j3 s (j3 s st)).place (j3 s (j3 s st)).tk.num b
   clear h4 hf1
   obtain ⟨R,hR⟩:∃r,qf5 s l st.place (s.size+1) [(j3 s (j3 s st)).tk.str] (j3 s (j3 s (j3 s st)))=r:=⟨_,rfl⟩
   rw [hR]
   have HR:=j4 hR
   clear hR
   go_enter Tryz.func268,Tryz.ntmps268
   go_wp2_with (first|(go_at_call_of 56 (Value.int IntKind.i64 11);refine (qd1 rb s st 11 _ (q9 H).size (q9 H).fine.after (q9 H).at' hlt (q9 H).err (q9 H11)).mono ?_;rintro e w1 ⟨rfl,hr1,hk1⟩;have hz1:=hk1.size;have n1:¬w1.heap.size=rb:=(by omega);have hR1:=j4 ((q9 RK _ _ (q9 HF1) hk1 hr1).allocd (.cells #[.int .i64 st.tk.kind,.int .i64 st.place,.int .i64 st.tk.num,.string (BS st.tk.str)] 91));have hK1:=j4 (hk1.alloc (.cells #[.int .i64 st.tk.kind,.int .i64 st.place,.int .i64 st.tk.num,.string (BS st.tk.str)] 91));clear hr1 hk1;simp only [tkV])|(go_at_call_of 56 (Value.int IntKind.i64 26);refine (qd1 rb s (j3 s st) 26 _ (q9 hR1).size (q9 hR1).fine.after (q9 hR1).at' (q9 hR1).lt (q9 hR1).err (q9 H26)).mono ?_;rintro e w2 ⟨rfl,hr2,hk2⟩;have hz2:w1.heap.size<w2.heap.size:=(by have:=hk2.size;simp at this;omega);have q2:w2.cell? ⟨w1.heap.size,1,none⟩=some (.int .i64 st.place):=((qc2 hk2).1 _ 1 (by simp) n1).trans (by simp);have hK2:=j4 ((q9 hK1).trans hk2);have hR2:=j4 (q9 RK _ _ (q9 HF2) (q9 hK2) hr2);clear hr2 hk2;simp only [tkV])|(go_at_call_of 56 (Value.int IntKind.i64 4);refine (qd1 rb s (j3 s (j3 s st)) 4 _ (q9 hR2).size (q9 hR2).fine.after (q9 hR2).at' (q9 hR2).lt (q9 hR2).err (q9 H4)).mono ?_;rintro e w3 ⟨rfl,hr3,hk3⟩;have hz3:w1.heap.size<w3.heap.size:=(by have:=hk3.size;omega);have q3:w3.cell? ⟨w1.heap.size,1,none⟩=some (.int .i64 st.place):=((qc2 hk3).1 _ 1 hz2 n1).trans q2;have hK3:=j4 ((q9 hK2).trans hk3);have hR3:=j4 (q9 RK _ _ (q9 HF3) (q9 hK3) hr3);clear hr3 hk3;simp only [tkV]))
   go_loopw [6] (fun v wr=>∃(n:Nat) (ts:List (List UInt8)) (sl:St),Hid (R=qf5 s l st.place n ts sl)∧s.size<n+sl.place∧Hid (wr.ownsRow (w1.heap.size+1) 9 1 v ts.length (qa0 ts))∧Hid (Ready rb s wr sl)∧sl.op=op∧ts.length≤sl.place∧st.place≤sl.place∧Hid (Kept rb w wr)∧wr.cell? ⟨w1.heap.size,1,none⟩=some (.int .i64 st.place)∧w1.heap.size<wr.heap.size) (fun v wr=>s.size+1 - plOf wr rb)
   case atStart=>exact ⟨s.size+1,_,_,j4 (q9 HR).symm,by omega,j4 (textRow _ _ (by omega) _),j4 ((q9 hR3).allocd _),ho,by simp;omega,by omega,j4 ((q9 hK3).alloc _),by rw [World.cell?_alloc_past _ _ _ (by first|omega|(simp;omega))];exact q3,by simp;omega⟩
   case round=>
    obtain ⟨n,ts,sl,hR,hn,hown,hready,hopl,htl,hpl,hk,hcr,hBr⟩:=hrel
    have hfine:=(q9 hready).fine
    have hfp:=hfine.place
    obtain ⟨m,rfl⟩:∃m,n=m+1:=⟨n - 1,by omega⟩
    have hltr:=(q9 hready).lt
    have HPL:=j4 (qr5 (q9 hready).at')
    have hbase:rb<w1.heap.size+1:=by omega
    have HFS:=j4 hfine.next
    have HFS2:=j4 hfine.next.next
    by_cases h28:sl.tk.kind=28
    ·have H28:=j4 h28
     have hlp:=hfine.lt (by rw [h28];decide)
     by_cases h4:(j3 s sl).tk.kind=4
     ·have H4:=j4 h4
      have hlp2:=hfine.next.lt (by rw [h4];decide)
      have hfp2:=hfine.next.next.place
      have HRR:Hid (R=qf5 s l st.place m (ts++[(j3 s sl).tk.str]) (j3 s (j3 s sl))):=j4 (by rw [q9 hR,vf3 h28 h4])
      have FS:=fun b=>vs4 (j3 s sl).tk.kind (j3 s sl).place (j3 s sl).tk.num b
      clear hR h28 h4 hfine
      go_wp2_with (first|(go_at_call 267;refine (qw0 rb s sl 28 _ (q9 hready).size (q9 hready).fine.after (q9 hready).at' hltr (q9 hready).err (q9 H28)).mono ?_;rintro e w4 ⟨rfl,hr4,hk4⟩;have hk4:=j4 hk4;have hR4:=j4 ((q9 hready).kept (q9 hk4) hr4 (q9 HFS));clear hr4)|(go_at_call_of 56 (Value.int IntKind.i64 4);refine (qd1 rb s (j3 s sl) 4 _ (q9 hR4).size (q9 hR4).fine.after (q9 hR4).at' (q9 hR4).lt (q9 hR4).err (q9 H4)).mono ?_;rintro e w5 ⟨rfl,hr5,hk5⟩;have hk5:=j4 ((q9 hk4).trans hk5);have hR5:=j4 ((q9 hready).kept (q9 hk5) hr5 (q9 HFS2));clear hr5;have hz5:=(q9 hk5).size;have hown5:=vn6 (q9 hown) (q9 hk5) hbase;simp only [tkV])|(at_builtin;refine wpList_append_own _ rfl _ _ 62 rfl (w1.heap.size+1) 9 i0 (.string ⟨#[]⟩) 1 16 Tryz.underlying62 hi hz0 hz1' hz2' rfl (by decide) _ _ _ rfl (hown5.alloc _) ⟨w5.heap.size,0,none⟩ 1 1 [.string (BS (j3 s sl).tk.str)] rfl rfl ?c1 ?c2 ?c3 ?c4 ?c5 ?_))
      case c1=>
       intro j u hj
       match j,hj with
       | 0,hj=>simp at hj;subst hj;simp [Addr.add]
       | j+1,hj=>simp at hj
      case c2=>intro u hu;simp at hu;subst hu;rfl
      case c3=>unfold maxLen;omega
      case c4=>omega
      case c5=>simp;omega
      ·intro v' w6 hown' hgrow _
       have G:=in_more hown' hgrow (q9 hown) (q9 hR5).at' (q9 hR5).lt (q9 hk) (q9 hk5) hcr hBr (by omega) (by omega)
       clear hown' hgrow hown hown5
       have HPL2:=j4 (qr5 G.2.1)
       have G:=j4 G
       go_wp2_with fail
       go_roundw
       case rel=>exact ⟨m,_,_,HRR,by omega,j4 (q9 G).1,j4 (q9 RK _ _ (q9 HFS2) (q9 G).2.2.1 (q9 G).2.1),hopl,by simp;omega,by omega,j4 (q9 G).2.2.1,(q9 G).2.2.2.1,(q9 G).2.2.2.2⟩
       case measure=>rw [q9 HPL,q9 HPL2];omega
     ·have H4:=j4 h4
      have HRR:Hid (R=.err 2 (j3 s sl).place):=j4 (by rw [q9 hR,vj2 h28 h4])
      clear hR h28 h4 hfine
      go_wp2_with (first|(go_at_call 267;refine (qw0 rb s sl 28 _ (q9 hready).size (q9 hready).fine.after (q9 hready).at' hltr (q9 hready).err (q9 H28)).mono ?_;rintro e w4 ⟨rfl,hr4,hk4⟩;have hk4:=j4 hk4;have hR4:=j4 ((q9 hready).kept (q9 hk4) hr4 (q9 HFS));clear hr4)|(go_at_call_of 56 (Value.int IntKind.i64 4);refine (qn4 rb s (j3 s sl) 4 _ (q9 hR4).at' (q9 hR4).lt (q9 H4)).mono ?_;rintro e w5 ⟨rfl,hk5⟩;simp only [qb4]))
      rw [q9 HRR]
      exact ⟨rfl,((q9 hk).trans (q9 hk4)).trans hk5,rfl⟩
    ·have H28:=j4 h28
     by_cases h27:sl.tk.kind=27
     ·have H27:=j4 h27
      have hlp:=hfine.lt (by rw [h27];decide)
      have HRR:Hid (R=.ok (.un ⟨21,st.place,0,[],[],ts⟩ l) (j3 s sl)):=j4 (by rw [q9 hR,vj3 h28 h27])
      clear hR h28 h27 hfine
      obtain ⟨va,vn,vc,rfl⟩:=vn7 (q9 hown)
      go_wp2_with (first|(go_at_call 267;refine (vh5 rb s sl 28 _ (q9 hready).at' (q9 H28)).mono ?_;rintro e w4 ⟨rfl,rfl⟩)|(go_at_call_of 56 (Value.int IntKind.i64 27);refine (qd1 rb s sl 27 _ (q9 hready).size (q9 hready).fine.after (q9 hready).at' hltr (q9 hready).err (q9 H27)).mono ?_;rintro e w5 ⟨rfl,hr5,hk5⟩;have q5:w5.cell? ⟨w1.heap.size,1,none⟩=some (.int .i64 st.place):=((qc2 hk5).1 _ 1 hBr n1).trans hcr;have hz5:=hk5.size;have hk5:=j4 hk5;have hr5:=j4 hr5;simp only [tkV]))
      go_ret
      rw [q9 HRR]
      have hK5:=(q9 hk).trans (q9 hk5)
      have hlt5:rb<w5.heap.size:=by omega
      refine ⟨(hK5.alloc _).alloc _,_,rfl,IsNode.texted ((q9 HL).kept hK5) hlt5 ((TextsAt.of_row (q9 hown) hbase).kept (q9 hk5)) 21 st.place [] [],((q9 hr5).allocd _ hlt5).allocd _ (by simp;omega),q9 HFS,hopl,by omega⟩
     ·have H27:=j4 h27
      have HRR:Hid (R=.err 2 sl.place):=j4 (by rw [q9 hR,vf4 h28 h27])
      clear hR h28 h27 hfine
      go_wp2_with (first|(go_at_call 267;refine (vh5 rb s sl 28 _ (q9 hready).at' (q9 H28)).mono ?_;rintro e w4 ⟨rfl,rfl⟩)|(go_at_call_of 56 (Value.int IntKind.i64 27);refine (qn4 rb s sl 27 _ (q9 hready).at' hltr (q9 H27)).mono ?_;rintro e w5 ⟨rfl,hk5⟩;simp only [qb4]))
      rw [q9 HRR]
      exact ⟨rfl,(q9 hk).trans hk5,rfl⟩
  ·rw [if_neg h4]
   have H4:=j4 h4
   clear h4 hf1
   go_enter Tryz.func268,Tryz.ntmps268
   go_wp2_with (first|(go_at_call_of 56 (Value.int IntKind.i64 11);refine (qd1 rb s st 11 _ (q9 H).size (q9 H).fine.after (q9 H).at' hlt (q9 H).err (q9 H11)).mono ?_;rintro e w1 ⟨rfl,hr1,hk1⟩;have hz1:=hk1.size;have n1:¬w1.heap.size=rb:=(by omega);have hR1:=j4 ((q9 RK _ _ (q9 HF1) hk1 hr1).allocd (.cells #[.int .i64 st.tk.kind,.int .i64 st.place,.int .i64 st.tk.num,.string (BS st.tk.str)] 91));have hK1:=j4 (hk1.alloc (.cells #[.int .i64 st.tk.kind,.int .i64 st.place,.int .i64 st.tk.num,.string (BS st.tk.str)] 91));clear hr1 hk1;simp only [tkV])|(go_at_call_of 56 (Value.int IntKind.i64 26);refine (qd1 rb s (j3 s st) 26 _ (q9 hR1).size (q9 hR1).fine.after (q9 hR1).at' (q9 hR1).lt (q9 hR1).err (q9 H26)).mono ?_;rintro e w2 ⟨rfl,hr2,hk2⟩;have hz2:w1.heap.size<w2.heap.size:=(by have:=hk2.size;simp at this;omega);have q2:w2.cell? ⟨w1.heap.size,1,none⟩=some (.int .i64 st.place):=((qc2 hk2).1 _ 1 (by simp) n1).trans (by simp);have hK2:=j4 ((q9 hK1).trans hk2);have hR2:=j4 (q9 RK _ _ (q9 HF2) (q9 hK2) hr2);clear hr2 hk2;simp only [tkV])|(go_at_call_of 56 (Value.int IntKind.i64 4);refine (qn4 rb s (j3 s (j3 s st)) 4 _ (q9 hR2).at' (q9 hR2).lt (q9 H4)).mono ?_;rintro e w3 ⟨rfl,hk3⟩;simp only [qb4]))
   exact ⟨rfl,(q9 hK2).trans hk3,rfl⟩
 ·rw [qh5,if_neg h26]
  have H26:=j4 h26
  clear h26 hf1
  go_enter Tryz.func268,Tryz.ntmps268
  go_wp2_with (first|(go_at_call_of 56 (Value.int IntKind.i64 11);refine (qd1 rb s st 11 _ (q9 H).size (q9 H).fine.after (q9 H).at' hlt (q9 H).err (q9 H11)).mono ?_;rintro e w1 ⟨rfl,hr1,hk1⟩;have hz1:=hk1.size;have n1:¬w1.heap.size=rb:=(by omega);have hR1:=j4 ((q9 RK _ _ (q9 HF1) hk1 hr1).allocd (.cells #[.int .i64 st.tk.kind,.int .i64 st.place,.int .i64 st.tk.num,.string (BS st.tk.str)] 91));have hK1:=j4 (hk1.alloc (.cells #[.int .i64 st.tk.kind,.int .i64 st.place,.int .i64 st.tk.num,.string (BS st.tk.str)] 91));clear hr1 hk1;simp only [tkV])|(go_at_call_of 56 (Value.int IntKind.i64 26);refine (qn4 rb s (j3 s st) 26 _ (q9 hR1).at' (q9 hR1).lt (q9 H26)).mono ?_;rintro e w2 ⟨rfl,hk2⟩;simp only [qb4]))
  exact ⟨rfl,(q9 hK1).trans hk2,rfl⟩
end
section
theorem vg7:(l:List UInt8)→∀r,qi5 l=some r→r.1.length≤l.length
 | [],r,h=>by simp [qi5] at h
 | [c],r,h=>by
  simp only [qi5] at h;split at h
  ·injection h with h;subst h;simp
  ·cases h
 | c::d::t,r,h=>by
  simp only [qi5] at h
  split at h
  ·split at h
   ·cases hq:qi5 t with
    | none=>rw [hq] at h;cases h
    | some q=>rw [hq] at h;injection h with h;subst h;have:=vg7 t q hq;simp;omega
   ·injection h with h;subst h;simp
  ·cases hq:qi5 (d::t) with
   | none=>rw [hq] at h;cases h
   | some q=>rw [hq] at h;injection h with h;subst h;have:=vg7 (d::t) q hq;simp at *;omega
theorem vz2 (l:List UInt8):(qf1 l).str.length≤l.length:=by
 unfold qf1
 split
 ·simp [qa2]
 ·rename_i c t
  split
  ·unfold qk2;split
   ·simp only [List.length_take];omega
   ·simp [qa2]
  split
  ·unfold qr8;split<;>simp [qa2]
  split
  ·unfold qj4;split
   ·rename_i r hr
    have:=vg7 _ _ hr
    rw [List.length_drop] at this
    show r.1.length≤_
    omega
   ·simp [qa2]
  ·simp [qa2]
theorem vb8 (s:ByteArray) (st:St):(j3 s st).tk.str.length≤s.size:=by
 show (qd8 s.data.toList st.after).str.length≤s.size
 unfold qd8
 split
 ·have:=vz2 (s.data.toList.drop (qe5 s.data.toList st.after))
  rw [List.length_drop,qa5] at this
  omega
 ·simp [qa2]
inductive ERes where
 | ok (str:List UInt8) (st:St)
 | err (pl:Int)
def qq3 (s:ByteArray) (ft:Tk) (fp:Nat) (st:St):ERes:=
 if st.tk.kind=4 then (if st.tk.str.length=1 then (if (qs2 st.tk.str ft.str).isSome=true then .ok st.tk.str (j3 s st) else .err fp) else .err st.place) else .err st.place
def EscEnds (rb:Nat) (s:ByteArray) (w:World) (r:ERes) (e:Ending) (w':World):Prop:=
 Kept rb w w'∧match r with
 | .ok str st=>e=.returned (.string (BS str))∧RdAt w' rb s st
 | .err pl=>e=qb4 2 pl
theorem vj0 (rb:Nat) (s:ByteArray) (ft:Tk) (fp:Nat) (hft:ft.str.length≤200) (w:World) (st:St) (h:Ready rb s w st) :
  Calls Tryz.prog 302 #[.pointer (some ⟨rb,0,none⟩),tkV ft fp] w (EscEnds rb s w (qq3 s ft fp st)):=by
 have H:=j4 h
 have HA:=j4 (h.allocd (.cells #[.int .i64 ft.kind,.int .i64 fp,.int .i64 ft.num,.string (BS ft.str)] 91))
 have hlt:=h.lt
 have n0:¬w.heap.size=rb:=by omega
 have hz:=qc4 st.tk.str
 have hpz:(BS ft.str).size≤200:=by rw [qc4];exact hft
 clear h
 simp only [tkV]
 by_cases h4:st.tk.kind=4
 ·rw [qq3,if_pos h4]
  have H4:=j4 h4
  clear h4
  by_cases h1:st.tk.str.length=1
  ·rw [if_pos h1]
   have hz1:(BS st.tk.str).size=1:=by omega
   have hzb:(((BS st.tk.str).size:Int) != 1)=false:=by rw [hz1];rfl
   clear hz h1 hz1
   have VAL:=j4 (fun w=>valid_any (BS ft.str) (BS st.tk.str) hpz w)
   cases hv:(qs2 st.tk.str ft.str).isSome with
   | true=>
    have HV:Hid ((qs2 (BS st.tk.str).data.toList (BS ft.str).data.toList).isSome=true):=j4 (by rw [qr2,qr2];exact hv)
    rw [if_pos rfl]
    clear hv
    go_enter Tryz.func302,Tryz.ntmps302
    go_wp2_with (first|(go_at_call 56;refine (qd1 rb s st 4 _ (q9 H).size (q9 H).fine.after (q9 HA).at' (q9 HA).lt (q9 HA).err (q9 H4)).mono ?_;rintro e w1 ⟨rfl,hr1,hk1⟩;have hz1:w.heap.size<w1.heap.size:=(by have:=hk1.size;simp at this;omega);have n1:¬w1.heap.size=rb:=(by omega);have p1:w1.cell? ⟨w.heap.size,1,none⟩=some (.int .i64 fp):=((qc2 hk1).1 _ 1 (by simp) n0).trans (by simp);have p3:w1.cell? ⟨w.heap.size,3,none⟩=some (.string (BS ft.str)):=((qc2 hk1).1 _ 3 (by simp) n0).trans (by simp);have hK1:=j4 ((((Kept.refl rb w).alloc (.cells #[.int .i64 ft.kind,.int .i64 fp,.int .i64 ft.num,.string (BS ft.str)] 91)).trans hk1).alloc (.cells #[.int .i64 st.tk.kind,.int .i64 st.place,.int .i64 st.tk.num,.string (BS st.tk.str)] 91));have hR1:=j4 (hr1.allocd (.cells #[.int .i64 st.tk.kind,.int .i64 st.place,.int .i64 st.tk.num,.string (BS st.tk.str)] 91) (by omega));clear hr1 hk1;simp only [tkV])|(go_at_call 332;go_loud (refine (q9 VAL _).mono ?_;rintro e w2 ⟨rfl,hb2⟩;rw [q9 HV];obtain ⟨hc,hf⟩:=qa9 hb2;have z2:=hb2.size;have q1:w2.cell? ⟨w.heap.size,1,none⟩=some (.int .i64 fp):=(hc _ 1 (by simp;omega)).trans (by rw [World.cell?_alloc_past _ _ _ (by first|omega|(simp;omega))];exact p1);have q3:w2.cell? ⟨w1.heap.size,3,none⟩=some (.string (BS st.tk.str)):=(hc _ 3 (by simp)).trans (by simp);have hb2:=j4 hb2;clear hc hf)))
    go_ret
    exact ⟨(q9 hK1).trans (Kept.of_below (q9 hb2)),rfl,(q9 hR1).below (q9 hb2) (by simp;omega)⟩
   | false=>
    have HV:Hid ((qs2 (BS st.tk.str).data.toList (BS ft.str).data.toList).isSome=false):=j4 (by rw [qr2,qr2];exact hv)
    rw [if_neg (by simp)]
    clear hv
    go_enter Tryz.func302,Tryz.ntmps302
    go_wp2_with (first|(go_at_call 56;refine (qd1 rb s st 4 _ (q9 H).size (q9 H).fine.after (q9 HA).at' (q9 HA).lt (q9 HA).err (q9 H4)).mono ?_;rintro e w1 ⟨rfl,hr1,hk1⟩;have hz1:w.heap.size<w1.heap.size:=(by have:=hk1.size;simp at this;omega);have n1:¬w1.heap.size=rb:=(by omega);have p1:w1.cell? ⟨w.heap.size,1,none⟩=some (.int .i64 fp):=((qc2 hk1).1 _ 1 (by simp) n0).trans (by simp);have p3:w1.cell? ⟨w.heap.size,3,none⟩=some (.string (BS ft.str)):=((qc2 hk1).1 _ 3 (by simp) n0).trans (by simp);have hK1:=j4 ((((Kept.refl rb w).alloc (.cells #[.int .i64 ft.kind,.int .i64 fp,.int .i64 ft.num,.string (BS ft.str)] 91)).trans hk1).alloc (.cells #[.int .i64 st.tk.kind,.int .i64 st.place,.int .i64 st.tk.num,.string (BS st.tk.str)] 91));have hR1:=j4 (hr1.allocd (.cells #[.int .i64 st.tk.kind,.int .i64 st.place,.int .i64 st.tk.num,.string (BS st.tk.str)] 91) (by omega));clear hr1 hk1;simp only [tkV])|(go_at_call 332;go_loud (refine (q9 VAL _).mono ?_;rintro e w2 ⟨rfl,hb2⟩;rw [q9 HV];obtain ⟨hc,hf⟩:=qa9 hb2;have z2:=hb2.size;have q1:w2.cell? ⟨w.heap.size,1,none⟩=some (.int .i64 fp):=(hc _ 1 (by simp;omega)).trans (by rw [World.cell?_alloc_past _ _ _ (by first|omega|(simp;omega))];exact p1);have q3:w2.cell? ⟨w1.heap.size,3,none⟩=some (.string (BS st.tk.str)):=(hc _ 3 (by simp)).trans (by simp);have hb2:=j4 hb2;clear hc hf))|(go_at_call 103;refine (vb5 _ _ _).mono ?_;rintro e w2 ⟨rfl,rfl⟩;simp only [qb4]))
    exact ⟨rfl,(q9 hK1).trans (Kept.of_below (q9 hb2)),rfl⟩
  ·rw [if_neg h1]
   have hzb:(((BS st.tk.str).size:Int) != 1)=true:=bne_iff_ne.2 (by rw [hz];omega)
   clear hz h1
   go_enter Tryz.func302,Tryz.ntmps302
   go_wp2_with (first|(go_at_call 56;refine (qd1 rb s st 4 _ (q9 H).size (q9 H).fine.after (q9 HA).at' (q9 HA).lt (q9 HA).err (q9 H4)).mono ?_;rintro e w1 ⟨rfl,hr1,hk1⟩;have hz1:w.heap.size<w1.heap.size:=(by have:=hk1.size;simp at this;omega);have n1:¬w1.heap.size=rb:=(by omega);have p1:w1.cell? ⟨w.heap.size,1,none⟩=some (.int .i64 fp):=((qc2 hk1).1 _ 1 (by simp) n0).trans (by simp);have p3:w1.cell? ⟨w.heap.size,3,none⟩=some (.string (BS ft.str)):=((qc2 hk1).1 _ 3 (by simp) n0).trans (by simp);have hK1:=j4 ((((Kept.refl rb w).alloc (.cells #[.int .i64 ft.kind,.int .i64 fp,.int .i64 ft.num,.string (BS ft.str)] 91)).trans hk1).alloc (.cells #[.int .i64 st.tk.kind,.int .i64 st.place,.int .i64 st.tk.num,.string (BS st.tk.str)] 91));have hR1:=j4 (hr1.allocd (.cells #[.int .i64 st.tk.kind,.int .i64 st.place,.int .i64 st.tk.num,.string (BS st.tk.str)] 91) (by omega));clear hr1 hk1;simp only [tkV])|(go_at_call 103;refine (vb5 _ _ _).mono ?_;rintro e w2 ⟨rfl,rfl⟩;simp only [qb4]))
   exact ⟨rfl,q9 hK1,rfl⟩
 ·rw [qq3,if_neg h4]
  have H4:=j4 h4
  clear h4
  go_enter Tryz.func302,Tryz.ntmps302
  go_wp2_with (go_at_call 56;refine (qn4 rb s st 4 _ (q9 HA).at' (q9 HA).lt (q9 H4)).mono ?_;rintro e w1 ⟨rfl,hk1⟩;simp only [qb4])
  exact ⟨rfl,((Kept.refl rb w).alloc _).trans hk1,rfl⟩
end
section
def qb6 (s:ByteArray) (l:Ast) (st:St):Res:=
 if (j3 s st).tk.kind=4 then
  (if (j3 s (j3 s st)).tk.kind=13 then
   (match qq3 s (j3 s st).tk (j3 s st).place (j3 s (j3 s (j3 s st))) with
    | .ok str st'=>.ok (.un ⟨22,st.place,0,(j3 s st).tk.str,str,[]⟩ l) st'
    | .err pl=>.err 2 pl)
  else .ok (.un ⟨22,st.place,0,(j3 s st).tk.str,[],[]⟩ l) (j3 s (j3 s st)))
 else .err 2 (j3 s st).place
theorem qu3 {s:ByteArray} {ft:Tk} {fp:Nat} {st:St} {str:List UInt8} {st':St} (h:qq3 s ft fp st=.ok str st'):st.tk.kind=4∧st'=j3 s st:=by
 unfold qq3 at h
 split at h
 ·rename_i h4
  split at h
  ·split at h
   ·injection h with _ h2;exact ⟨h4,h2.symm⟩
   ·cases h
  ·cases h
 ·cases h
theorem ji2 (rb:Nat) (s:ByteArray) (op:Nat) (hs:s.size≤200):qm1 269 rb s op 12 (qb6 s):=by
 intro w st l lv h ho hl h12
 have H:=j4 h
 have hlt:=h.lt
 have hf1:=h.fine.next
 have hp1:=h.fine.le (by rw [h12];decide)
 have H12:=j4 h12
 obtain ⟨lb,rfl⟩:=hl.ptr
 have HL:=j4 hl
 have RK:Hid (∀w1 st1,Fine s st1→Kept rb w w1→RdAt w1 rb s st1→Ready rb s w1 st1):=j4 fun w1 st1 hf hk hr=>h.kept hk hr hf
 have hl1:(j3 s st).tk.str.length≤200:=Nat.le_trans (vb8 s st) hs
 have ho1:(j3 s st).op=op:=ho
 unfold qb6
 clear h hl h12
 obtain ⟨st1,h1⟩:∃x,j3 s st=x:=⟨_,rfl⟩
 have S1:=j4 h1
 rw [h1] at hf1 hl1 ho1 hp1 ⊢
 clear h1
 have HF1:=j4 hf1
 by_cases h4:st1.tk.kind=4
 ·rw [if_pos h4]
  have H4:=j4 h4
  have hf2:=hf1.next
  have hp2:=hf1.le (by rw [h4];decide)
  have ho2:(j3 s st1).op=op:=ho1
  obtain ⟨st2,h2⟩:∃x,j3 s st1=x:=⟨_,rfl⟩
  have S2:=j4 h2
  rw [h2] at hf2 ho2 hp2 ⊢
  have HF2:=j4 hf2
  clear h4 h2 hf1
  by_cases h13:st2.tk.kind=13
  ·rw [if_pos h13]
   have H13:=j4 h13
   have hf3:=hf2.next
   have hp3:=hf2.le (by rw [h13];decide)
   have ho3:(j3 s st2).op=op:=ho2
   obtain ⟨st3,h3⟩:∃x,j3 s st2=x:=⟨_,rfl⟩
   have S3:=j4 h3
   rw [h3] at hf3 ho3 hp3 ⊢
   have HF3:=j4 hf3
   clear h13 h3 hf2
   cases he:qq3 s st1.tk st1.place st3 with
   | ok str st4=>
    obtain ⟨hk4,h4'⟩:=qu3 he
    have hf4:=hf3.next
    have hp4:=hf3.le (by rw [hk4];decide)
    have ho4:(j3 s st3).op=op:=ho3
    rw [←h4'] at hf4 ho4 hp4
    have HE:=j4 he
    have HF4:=j4 hf4
    clear he hf3 hf4 hk4 h4'
    go_enter Tryz.func269,Tryz.ntmps269
    go_wp2_with (first|(go_at_call_of 56 (Value.int IntKind.i64 12);refine (qd1 rb s st 12 _ (q9 H).size (q9 H).fine.after (q9 H).at' hlt (q9 H).err (q9 H12)).mono ?_;rw [q9 S1];rintro e w1 ⟨rfl,hr1,hk1⟩;have hz1:=hk1.size;have n1:¬w1.heap.size=rb:=(by omega);have hR1:=j4 ((q9 RK _ _ (q9 HF1) hk1 hr1).allocd (.cells #[.int .i64 st.tk.kind,.int .i64 st.place,.int .i64 st.tk.num,.string (BS st.tk.str)] 91));have hK1:=j4 (hk1.alloc (.cells #[.int .i64 st.tk.kind,.int .i64 st.place,.int .i64 st.tk.num,.string (BS st.tk.str)] 91));clear hr1 hk1;simp only [tkV])|(go_at_call_of 56 (Value.int IntKind.i64 4);refine (qd1 rb s st1 4 _ (q9 hR1).size (q9 hR1).fine.after (q9 hR1).at' (q9 hR1).lt (q9 hR1).err (q9 H4)).mono ?_;rw [q9 S2];rintro e w2 ⟨rfl,hr2,hk2⟩;have hz2:w1.heap.size<w2.heap.size:=(by have:=hk2.size;simp at this;omega);have n2:¬w2.heap.size=rb:=(by omega);have q2:(w2.alloc (.cells #[.int .i64 st1.tk.kind,.int .i64 st1.place,.int .i64 st1.tk.num,.string (BS st1.tk.str)] 91)).cell? ⟨w1.heap.size,1,none⟩=some (.int .i64 st.place):=(by rw [World.cell?_alloc_past _ _ _ (by first|omega|(simp;omega))];exact ((qc2 hk2).1 _ 1 (by simp) n1).trans (by simp));have hK2:=j4 (((q9 hK1).trans hk2).alloc (.cells #[.int .i64 st1.tk.kind,.int .i64 st1.place,.int .i64 st1.tk.num,.string (BS st1.tk.str)] 91));have hR2:=j4 ((q9 RK _ _ (q9 HF2) ((q9 hK1).trans hk2) hr2).allocd (.cells #[.int .i64 st1.tk.kind,.int .i64 st1.place,.int .i64 st1.tk.num,.string (BS st1.tk.str)] 91));clear hr2 hk2;simp only [tkV])|(go_at_call 267;refine (qw0 rb s st2 13 _ (q9 hR2).size (q9 hR2).fine.after (q9 hR2).at' (q9 hR2).lt (q9 hR2).err (q9 H13)).mono ?_;rw [q9 S3];rintro e w3 ⟨rfl,hr3,hk3⟩;have hz3:w2.heap.size<w3.heap.size:=(by have:=hk3.size;simp at this;omega);obtain ⟨kc,kf⟩:=qc2 hk3;have r0:w3.cell? ⟨w2.heap.size,0,none⟩=some (.int .i64 st1.tk.kind):=(kc _ 0 (by simp) n2).trans (by simp);have r1:w3.cell? ⟨w2.heap.size,1,none⟩=some (.int .i64 st1.place):=(kc _ 1 (by simp) n2).trans (by simp);have r2:w3.cell? ⟨w2.heap.size,2,none⟩=some (.int .i64 st1.tk.num):=(kc _ 2 (by simp) n2).trans (by simp);have r3:w3.cell? ⟨w2.heap.size,3,none⟩=some (.string (BS st1.tk.str)):=(kc _ 3 (by simp) n2).trans (by simp);have q3:w3.cell? ⟨w1.heap.size,1,none⟩=some (.int .i64 st.place):=(kc _ 1 (by simp;omega) n1).trans q2;have hK3:=j4 ((q9 hK2).trans hk3);have hR3:=j4 (q9 RK _ _ (q9 HF3) (q9 hK3) hr3);clear hr3 hk3 kc kf)|(go_at_call 302;refine (vj0 rb s st1.tk st1.place hl1 _ st3 (q9 hR3)).mono ?_;rintro e w4 ⟨hk4,h4⟩;rw [q9 HE] at h4;obtain ⟨rfl,hr4⟩:=h4;have hz4:w2.heap.size<w4.heap.size:=(by have:=hk4.size;omega);obtain ⟨kc,kf⟩:=qc2 hk4;have u3:w4.cell? ⟨w2.heap.size,3,none⟩=some (.string (BS st1.tk.str)):=(kc _ 3 hz3 n2).trans r3;have u1:w4.cell? ⟨w1.heap.size,1,none⟩=some (.int .i64 st.place):=(kc _ 1 (by omega) n1).trans q3;have hK4:=j4 ((q9 hK3).trans hk4);have hr4:=j4 hr4;clear hk4 kc kf))
    go_ret
    have hlt4:rb<w4.heap.size:=Nat.lt_of_lt_of_le hlt (q9 hK4).size
    refine ⟨((q9 hK4).alloc _).alloc _,_,rfl,IsNode.texted ((q9 HL).kept (q9 hK4)) hlt4 (.inl ⟨rfl,rfl⟩) 22 st.place _ _,((q9 hr4).allocd _ hlt4).allocd _ (by simp;omega),q9 HF4,ho4,by omega⟩
   | err pl=>
    have HE:=j4 he
    clear he hf3
    go_enter Tryz.func269,Tryz.ntmps269
    go_wp2_with (first|(go_at_call_of 56 (Value.int IntKind.i64 12);refine (qd1 rb s st 12 _ (q9 H).size (q9 H).fine.after (q9 H).at' hlt (q9 H).err (q9 H12)).mono ?_;rw [q9 S1];rintro e w1 ⟨rfl,hr1,hk1⟩;have hz1:=hk1.size;have n1:¬w1.heap.size=rb:=(by omega);have hR1:=j4 ((q9 RK _ _ (q9 HF1) hk1 hr1).allocd (.cells #[.int .i64 st.tk.kind,.int .i64 st.place,.int .i64 st.tk.num,.string (BS st.tk.str)] 91));have hK1:=j4 (hk1.alloc (.cells #[.int .i64 st.tk.kind,.int .i64 st.place,.int .i64 st.tk.num,.string (BS st.tk.str)] 91));clear hr1 hk1;simp only [tkV])|(go_at_call_of 56 (Value.int IntKind.i64 4);refine (qd1 rb s st1 4 _ (q9 hR1).size (q9 hR1).fine.after (q9 hR1).at' (q9 hR1).lt (q9 hR1).err (q9 H4)).mono ?_;rw [q9 S2];rintro e w2 ⟨rfl,hr2,hk2⟩;have hz2:w1.heap.size<w2.heap.size:=(by have:=hk2.size;simp at this;omega);have n2:¬w2.heap.size=rb:=(by omega);have q2:(w2.alloc (.cells #[.int .i64 st1.tk.kind,.int .i64 st1.place,.int .i64 st1.tk.num,.string (BS st1.tk.str)] 91)).cell? ⟨w1.heap.size,1,none⟩=some (.int .i64 st.place):=(by rw [World.cell?_alloc_past _ _ _ (by first|omega|(simp;omega))];exact ((qc2 hk2).1 _ 1 (by simp) n1).trans (by simp));have hK2:=j4 (((q9 hK1).trans hk2).alloc (.cells #[.int .i64 st1.tk.kind,.int .i64 st1.place,.int .i64 st1.tk.num,.string (BS st1.tk.str)] 91));have hR2:=j4 ((q9 RK _ _ (q9 HF2) ((q9 hK1).trans hk2) hr2).allocd (.cells #[.int .i64 st1.tk.kind,.int .i64 st1.place,.int .i64 st1.tk.num,.string (BS st1.tk.str)] 91));clear hr2 hk2;simp only [tkV])|(go_at_call 267;refine (qw0 rb s st2 13 _ (q9 hR2).size (q9 hR2).fine.after (q9 hR2).at' (q9 hR2).lt (q9 hR2).err (q9 H13)).mono ?_;rw [q9 S3];rintro e w3 ⟨rfl,hr3,hk3⟩;have hz3:w2.heap.size<w3.heap.size:=(by have:=hk3.size;simp at this;omega);obtain ⟨kc,kf⟩:=qc2 hk3;have r0:w3.cell? ⟨w2.heap.size,0,none⟩=some (.int .i64 st1.tk.kind):=(kc _ 0 (by simp) n2).trans (by simp);have r1:w3.cell? ⟨w2.heap.size,1,none⟩=some (.int .i64 st1.place):=(kc _ 1 (by simp) n2).trans (by simp);have r2:w3.cell? ⟨w2.heap.size,2,none⟩=some (.int .i64 st1.tk.num):=(kc _ 2 (by simp) n2).trans (by simp);have r3:w3.cell? ⟨w2.heap.size,3,none⟩=some (.string (BS st1.tk.str)):=(kc _ 3 (by simp) n2).trans (by simp);have q3:w3.cell? ⟨w1.heap.size,1,none⟩=some (.int .i64 st.place):=(kc _ 1 (by simp;omega) n1).trans q2;have hK3:=j4 ((q9 hK2).trans hk3);have hR3:=j4 (q9 RK _ _ (q9 HF3) (q9 hK3) hr3);clear hr3 hk3 kc kf)|(go_at_call 302;refine (vj0 rb s st1.tk st1.place hl1 _ st3 (q9 hR3)).mono ?_;rintro e w4 ⟨hk4,h4⟩;rw [q9 HE] at h4;subst h4;simp only [qb4]))
    exact ⟨rfl,(q9 hK3).trans hk4,rfl⟩
  ·rw [if_neg h13]
   have H13:=j4 h13
   clear h13 hf2
   go_enter Tryz.func269,Tryz.ntmps269
   go_wp2_with (first|(go_at_call_of 56 (Value.int IntKind.i64 12);refine (qd1 rb s st 12 _ (q9 H).size (q9 H).fine.after (q9 H).at' hlt (q9 H).err (q9 H12)).mono ?_;rw [q9 S1];rintro e w1 ⟨rfl,hr1,hk1⟩;have hz1:=hk1.size;have n1:¬w1.heap.size=rb:=(by omega);have hR1:=j4 ((q9 RK _ _ (q9 HF1) hk1 hr1).allocd (.cells #[.int .i64 st.tk.kind,.int .i64 st.place,.int .i64 st.tk.num,.string (BS st.tk.str)] 91));have hK1:=j4 (hk1.alloc (.cells #[.int .i64 st.tk.kind,.int .i64 st.place,.int .i64 st.tk.num,.string (BS st.tk.str)] 91));clear hr1 hk1;simp only [tkV])|(go_at_call_of 56 (Value.int IntKind.i64 4);refine (qd1 rb s st1 4 _ (q9 hR1).size (q9 hR1).fine.after (q9 hR1).at' (q9 hR1).lt (q9 hR1).err (q9 H4)).mono ?_;rw [q9 S2];rintro e w2 ⟨rfl,hr2,hk2⟩;have hz2:w1.heap.size<w2.heap.size:=(by have:=hk2.size;simp at this;omega);have n2:¬w2.heap.size=rb:=(by omega);have q2:(w2.alloc (.cells #[.int .i64 st1.tk.kind,.int .i64 st1.place,.int .i64 st1.tk.num,.string (BS st1.tk.str)] 91)).cell? ⟨w1.heap.size,1,none⟩=some (.int .i64 st.place):=(by rw [World.cell?_alloc_past _ _ _ (by first|omega|(simp;omega))];exact ((qc2 hk2).1 _ 1 (by simp) n1).trans (by simp));have hK2:=j4 (((q9 hK1).trans hk2).alloc (.cells #[.int .i64 st1.tk.kind,.int .i64 st1.place,.int .i64 st1.tk.num,.string (BS st1.tk.str)] 91));have hR2:=j4 ((q9 RK _ _ (q9 HF2) ((q9 hK1).trans hk2) hr2).allocd (.cells #[.int .i64 st1.tk.kind,.int .i64 st1.place,.int .i64 st1.tk.num,.string (BS st1.tk.str)] 91));clear hr2 hk2;simp only [tkV])|(go_at_call 267;refine (vh5 rb s st2 13 _ (q9 hR2).at' (q9 H13)).mono ?_;rintro e w3 ⟨rfl,rfl⟩))
   go_ret
   have hK:=q9 hK2
   have hlt4:=(q9 hR2).lt
   have hnode:=IsNode.texted (ts:=[]) ((q9 HL).kept hK) hlt4 (.inl ⟨rfl,rfl⟩) 22 st.place st1.tk.str []
   refine ⟨(hK.alloc _).alloc _,_,rfl,by simpa [BS] using hnode,((q9 hR2).at'.allocd _ hlt4).allocd _ (by simp;omega),q9 HF2,ho2,by omega⟩
 ·rw [if_neg h4]
  have H4:=j4 h4
  clear h4 hf1
  go_enter Tryz.func269,Tryz.ntmps269
  go_wp2_with (first|(go_at_call_of 56 (Value.int IntKind.i64 12);refine (qd1 rb s st 12 _ (q9 H).size (q9 H).fine.after (q9 H).at' hlt (q9 H).err (q9 H12)).mono ?_;rw [q9 S1];rintro e w1 ⟨rfl,hr1,hk1⟩;have hz1:=hk1.size;have n1:¬w1.heap.size=rb:=(by omega);have hR1:=j4 ((q9 RK _ _ (q9 HF1) hk1 hr1).allocd (.cells #[.int .i64 st.tk.kind,.int .i64 st.place,.int .i64 st.tk.num,.string (BS st.tk.str)] 91));have hK1:=j4 (hk1.alloc (.cells #[.int .i64 st.tk.kind,.int .i64 st.place,.int .i64 st.tk.num,.string (BS st.tk.str)] 91));clear hr1 hk1;simp only [tkV])|(go_at_call_of 56 (Value.int IntKind.i64 4);refine (qn4 rb s st1 4 _ (q9 hR1).at' (q9 hR1).lt (q9 H4)).mono ?_;rintro e w2 ⟨rfl,hk2⟩;simp only [qb4]))
  exact ⟨rfl,(q9 hK1).trans hk2,rfl⟩
end
section
def opA:Ast→Int
 | .leaf p=>p.op
 | .un p _=>p.op
 | .bin p _ _=>p.op
 | .tri p _ _ _=>p.op
theorem IsNode.opAt {rb:Nat} {w:World} {v:Value} {t:Ast} (h:IsNode rb w v t):∃b,v=.pointer (some ⟨b,0,none⟩)∧w.cell? ⟨b,0,none⟩=some (.int .i64 (opA t)):=by
 cases t with
 | leaf p=>obtain ⟨b,hv,h⟩:=h;exact ⟨b,hv,h.c0⟩
 | un p x=>obtain ⟨b,g,v1,hv,h,_⟩:=h;exact ⟨b,hv,h.c0⟩
 | bin p x y=>obtain ⟨b,g,v1,v2,hv,h,_⟩:=h;exact ⟨b,hv,h.c0⟩
 | tri p x y z=>obtain ⟨b,g,v1,v2,v3,hv,h,_⟩:=h;exact ⟨b,hv,h.c0⟩
def qe6 (st:St) (l:Ast):Bool:=st.tk.kind==2&&opA l==0
def qb5 (s:ByteArray) (f:St→Res) (gI gL:Ast→St→Res) (bare:Bool) (l:Ast) (st:St):Res:=
 if st.tk.kind=16∨st.tk.kind=17∨st.tk.kind=18∨st.tk.kind=19∨st.tk.kind=20∨st.tk.kind=21 then qc9 s f st l
 else if st.tk.kind=14 then (if bare=true then qd2 s l st else .ok l st)
 else if st.tk.kind=7 then (match qb1 s f gI gL bare l (j3 s st) with
  | .ok t st'=>.ok (.un ⟨5,st.place,0,[],[],[]⟩ t) st'
  | .err en pl=>.err en pl)
 else if st.tk.kind=10∨st.tk.kind=11∨st.tk.kind=12 then qb1 s f gI gL bare l st
 else .ok l st
def qg1 (s:ByteArray) (f:St→Res) (gI gL:Ast→St→Res) (st:St):Res:=match f st with
 | .ok l st'=>qb5 s f gI gL (qe6 st l) l st'
 | .err en pl=>.err en pl
theorem Gives.from' {rb:Nat} {s:ByteArray} {w w1:World} {op lo lo':Nat} {r:Res} {e:Ending} {w':World} (h:Gives rb s w1 op lo r e w') (hk:Kept rb w w1) (hl:lo'≤lo):Gives rb s w op lo' r e w':=by
 refine ⟨hk.trans h.1, ?_⟩
 cases r with
 | ok t st=>obtain ⟨_,v,h1,h2,h3,h4,h5,h6⟩:=h;exact ⟨v,h1,h2,h3,h4,h5,Nat.le_trans hl h6⟩
 | err en pl=>exact h.2
theorem test_none (rb:Nat) (s:ByteArray) (op:Nat) (f:St→Res) (gI gL:Ast→St→Res) (hf:qg4 241 rb s op f) (hI:qm1 268 rb s op 11 gI) (hL:qm1 269 rb s op 12 gL)
  (w:World) (st:St) (h:Ready rb s w st) (ho:st.op=op) (l:Ast) (st1:St) (hres:f st=.ok l st1)  (h16:¬st1.tk.kind=16) (h17:¬st1.tk.kind=17) (h18:¬st1.tk.kind=18) (h19:¬st1.tk.kind=19) (h20:¬st1.tk.kind=20) (h21:¬st1.tk.kind=21) (h14:¬st1.tk.kind=14) (h7:¬st1.tk.kind=7) (h10:¬st1.tk.kind=10) (h11:¬st1.tk.kind=11) (h12:¬st1.tk.kind=12) :
  Calls Tryz.prog 198 #[.pointer (some ⟨rb,0,none⟩)] w (Gives rb s w op st.place (qb5 s f gI gL (qe6 st l) l st1)):=by
 have H:=j4 h
 have HF:=j4 hf
 have HI:=j4 hI
 have HLK:=j4 hL
 have HRES:=j4 hres
 have hmf:∀(fn:Fn) (first cap:Array Value) (w:World),(Instr.makeFunc fn first cap).run Tryz.prog w=.ok (.func fn first cap) w:=fun _ _ _ _=>rfl
 obtain ⟨c0,c1,c2,c3,c4,c5,c6,fz⟩:=h.at'
 have hlt:=h.lt
 clear h hf hI hL hres
 have e16:(st1.tk.kind==16)=false:=beq_eq_false_iff_ne.2 h16
 have e17:(st1.tk.kind==17)=false:=beq_eq_false_iff_ne.2 h17
 have e18:(st1.tk.kind==18)=false:=beq_eq_false_iff_ne.2 h18
 have e19:(st1.tk.kind==19)=false:=beq_eq_false_iff_ne.2 h19
 have e20:(st1.tk.kind==20)=false:=beq_eq_false_iff_ne.2 h20
 have e21:(st1.tk.kind==21)=false:=beq_eq_false_iff_ne.2 h21
 have e14:(st1.tk.kind==14)=false:=beq_eq_false_iff_ne.2 h14
 have e7:(st1.tk.kind==7)=false:=beq_eq_false_iff_ne.2 h7
 have e10:(st1.tk.kind==10)=false:=beq_eq_false_iff_ne.2 h10
 have e11:(st1.tk.kind==11)=false:=beq_eq_false_iff_ne.2 h11
 have e12:(st1.tk.kind==12)=false:=beq_eq_false_iff_ne.2 h12
 have hT:∀bare,qb5 s f gI gL bare l st1=.ok l st1:=fun bare=>by unfold qb5;simp [h16,h17,h18,h19,h20,h21,h14,h7,h10,h11,h12]
 clear h16 h17 h18 h19 h20 h21 h14 h7 h10 h11 h12
 rw [hT]
 clear hT
 cases hb0:(st.tk.kind==2)<;>cases hb1:(opA l==0)
 all_goals
  go_enter Tryz.func198,Tryz.ntmps198
  go_wp2_with (go_at_call 241;refine (q9 HF _ st (q9 H) ho).mono ?_;rintro e w1 ⟨hk1,h1⟩;rw [q9 HRES] at h1;obtain ⟨v1,rfl,hn1,hr1,hf1,ho1,hp1⟩:=h1;obtain ⟨b,rfl,cb⟩:=hn1.opAt;obtain ⟨d0,d1,d2,d3,d4,d5,d6,dz⟩:=hr1;have hR1:=j4 ((q9 H).kept hk1 ⟨d0,d1,d2,d3,d4,d5,d6,dz⟩ hf1);have hn1:=j4 hn1;have hK1:=j4 hk1;clear hk1 d0 d3 d4 d5 d6)
  go_ret
  exact ⟨q9 hK1,_,rfl,q9 hn1,(q9 hR1).at',hf1,ho1,hp1⟩
theorem test_16 (rb:Nat) (s:ByteArray) (op:Nat) (f:St→Res) (gI gL:Ast→St→Res) (hf:qg4 241 rb s op f) (hI:qm1 268 rb s op 11 gI) (hL:qm1 269 rb s op 12 gL)
  (w:World) (st:St) (h:Ready rb s w st) (ho:st.op=op) (l:Ast) (st1:St) (hres:f st=.ok l st1) (hk:st1.tk.kind=16) :
  Calls Tryz.prog 198 #[.pointer (some ⟨rb,0,none⟩)] w (Gives rb s w op st.place (qb5 s f gI gL (qe6 st l) l st1)):=by
 have H:=j4 h
 have HF:=j4 hf
 have HI:=j4 hI
 have HLK:=j4 hL
 have HRES:=j4 hres
 have hmf:∀(fn:Fn) (first cap:Array Value) (w:World),(Instr.makeFunc fn first cap).run Tryz.prog w=.ok (.func fn first cap) w:=fun _ _ _ _=>rfl
 obtain ⟨c0,c1,c2,c3,c4,c5,c6,fz⟩:=h.at'
 have hlt:=h.lt
 clear h hf hI hL hres
 have e16:(st1.tk.kind==16)=true:=by rw [hk];rfl
 have hT:∀bare,qb5 s f gI gL bare l st1=qc9 s f st1 l:=fun bare=>by unfold qb5;simp [hk]
 rw [hT]
 clear hT
 have HKK:=j4 hk
 clear hk
 cases hb0:(st.tk.kind==2)<;>cases hb1:(opA l==0)
 all_goals
  go_enter Tryz.func198,Tryz.ntmps198
  go_wp2_with (first|(go_at_call 241;refine (q9 HF _ st (q9 H) ho).mono ?_;rintro e w1 ⟨hk1,h1⟩;rw [q9 HRES] at h1;obtain ⟨v1,rfl,hn1,hr1,hf1,ho1,hp1⟩:=h1;obtain ⟨b,rfl,cb⟩:=hn1.opAt;obtain ⟨d0,d1,d2,d3,d4,d5,d6,dz⟩:=hr1;have hR1:=j4 ((q9 H).kept hk1 ⟨d0,d1,d2,d3,d4,d5,d6,dz⟩ hf1);have hn1:=j4 hn1;have hK1:=j4 hk1;clear hk1 d0 d3 d4 d5 d6)|(go_at_call 146;refine (qq1 rb s op f (q9 HF) st1 l _ _ (q9 hR1) ho1 (q9 hn1)).mono ?_;rintro e w' hg;have hg:=hg.from' (q9 hK1) (Nat.le_trans hp1 (Nat.le_of_lt (hf1.long (by rw [q9 HKK];decide))));rcases hg.cases with ⟨v,rfl,hg⟩|⟨en,pl,rfl,hg⟩;rotate_left;(exact ⟨rfl,hg⟩);have HG:=j4 hg;clear hg))
  go_ret
  exact q9 HG
theorem test_17 (rb:Nat) (s:ByteArray) (op:Nat) (f:St→Res) (gI gL:Ast→St→Res) (hf:qg4 241 rb s op f) (hI:qm1 268 rb s op 11 gI) (hL:qm1 269 rb s op 12 gL)
  (w:World) (st:St) (h:Ready rb s w st) (ho:st.op=op) (l:Ast) (st1:St) (hres:f st=.ok l st1) (hk:st1.tk.kind=17) :
  Calls Tryz.prog 198 #[.pointer (some ⟨rb,0,none⟩)] w (Gives rb s w op st.place (qb5 s f gI gL (qe6 st l) l st1)):=by
 have H:=j4 h
 have HF:=j4 hf
 have HI:=j4 hI
 have HLK:=j4 hL
 have HRES:=j4 hres
 have hmf:∀(fn:Fn) (first cap:Array Value) (w:World),(Instr.makeFunc fn first cap).run Tryz.prog w=.ok (.func fn first cap) w:=fun _ _ _ _=>rfl
 obtain ⟨c0,c1,c2,c3,c4,c5,c6,fz⟩:=h.at'
 have hlt:=h.lt
 clear h hf hI hL hres
 have e16:(st1.tk.kind==16)=false:=by rw [hk];rfl
 have e17:(st1.tk.kind==17)=true:=by rw [hk];rfl
 have hT:∀bare,qb5 s f gI gL bare l st1=qc9 s f st1 l:=fun bare=>by unfold qb5;simp [hk]
 rw [hT]
 clear hT
 have HKK:=j4 hk
 clear hk
 cases hb0:(st.tk.kind==2)<;>cases hb1:(opA l==0)
 all_goals
  go_enter Tryz.func198,Tryz.ntmps198
  go_wp2_with (first|(go_at_call 241;refine (q9 HF _ st (q9 H) ho).mono ?_;rintro e w1 ⟨hk1,h1⟩;rw [q9 HRES] at h1;obtain ⟨v1,rfl,hn1,hr1,hf1,ho1,hp1⟩:=h1;obtain ⟨b,rfl,cb⟩:=hn1.opAt;obtain ⟨d0,d1,d2,d3,d4,d5,d6,dz⟩:=hr1;have hR1:=j4 ((q9 H).kept hk1 ⟨d0,d1,d2,d3,d4,d5,d6,dz⟩ hf1);have hn1:=j4 hn1;have hK1:=j4 hk1;clear hk1 d0 d3 d4 d5 d6)|(go_at_call 146;refine (qq1 rb s op f (q9 HF) st1 l _ _ (q9 hR1) ho1 (q9 hn1)).mono ?_;rintro e w' hg;have hg:=hg.from' (q9 hK1) (Nat.le_trans hp1 (Nat.le_of_lt (hf1.long (by rw [q9 HKK];decide))));rcases hg.cases with ⟨v,rfl,hg⟩|⟨en,pl,rfl,hg⟩;rotate_left;(exact ⟨rfl,hg⟩);have HG:=j4 hg;clear hg))
  go_ret
  exact q9 HG
theorem test_18 (rb:Nat) (s:ByteArray) (op:Nat) (f:St→Res) (gI gL:Ast→St→Res) (hf:qg4 241 rb s op f) (hI:qm1 268 rb s op 11 gI) (hL:qm1 269 rb s op 12 gL)
  (w:World) (st:St) (h:Ready rb s w st) (ho:st.op=op) (l:Ast) (st1:St) (hres:f st=.ok l st1) (hk:st1.tk.kind=18) :
  Calls Tryz.prog 198 #[.pointer (some ⟨rb,0,none⟩)] w (Gives rb s w op st.place (qb5 s f gI gL (qe6 st l) l st1)):=by
 have H:=j4 h
 have HF:=j4 hf
 have HI:=j4 hI
 have HLK:=j4 hL
 have HRES:=j4 hres
 have hmf:∀(fn:Fn) (first cap:Array Value) (w:World),(Instr.makeFunc fn first cap).run Tryz.prog w=.ok (.func fn first cap) w:=fun _ _ _ _=>rfl
 obtain ⟨c0,c1,c2,c3,c4,c5,c6,fz⟩:=h.at'
 have hlt:=h.lt
 clear h hf hI hL hres
 have e16:(st1.tk.kind==16)=false:=by rw [hk];rfl
 have e17:(st1.tk.kind==17)=false:=by rw [hk];rfl
 have e18:(st1.tk.kind==18)=true:=by rw [hk];rfl
 have hT:∀bare,qb5 s f gI gL bare l st1=qc9 s f st1 l:=fun bare=>by unfold qb5;simp [hk]
 rw [hT]
 clear hT
 have HKK:=j4 hk
 clear hk
 cases hb0:(st.tk.kind==2)<;>cases hb1:(opA l==0)
 all_goals
  go_enter Tryz.func198,Tryz.ntmps198
  go_wp2_with (first|(go_at_call 241;refine (q9 HF _ st (q9 H) ho).mono ?_;rintro e w1 ⟨hk1,h1⟩;rw [q9 HRES] at h1;obtain ⟨v1,rfl,hn1,hr1,hf1,ho1,hp1⟩:=h1;obtain ⟨b,rfl,cb⟩:=hn1.opAt;obtain ⟨d0,d1,d2,d3,d4,d5,d6,dz⟩:=hr1;have hR1:=j4 ((q9 H).kept hk1 ⟨d0,d1,d2,d3,d4,d5,d6,dz⟩ hf1);have hn1:=j4 hn1;have hK1:=j4 hk1;clear hk1 d0 d3 d4 d5 d6)|(go_at_call 146;refine (qq1 rb s op f (q9 HF) st1 l _ _ (q9 hR1) ho1 (q9 hn1)).mono ?_;rintro e w' hg;have hg:=hg.from' (q9 hK1) (Nat.le_trans hp1 (Nat.le_of_lt (hf1.long (by rw [q9 HKK];decide))));rcases hg.cases with ⟨v,rfl,hg⟩|⟨en,pl,rfl,hg⟩;rotate_left;(exact ⟨rfl,hg⟩);have HG:=j4 hg;clear hg))
  go_ret
  exact q9 HG
theorem test_19 (rb:Nat) (s:ByteArray) (op:Nat) (f:St→Res) (gI gL:Ast→St→Res) (hf:qg4 241 rb s op f) (hI:qm1 268 rb s op 11 gI) (hL:qm1 269 rb s op 12 gL)
  (w:World) (st:St) (h:Ready rb s w st) (ho:st.op=op) (l:Ast) (st1:St) (hres:f st=.ok l st1) (hk:st1.tk.kind=19) :
  Calls Tryz.prog 198 #[.pointer (some ⟨rb,0,none⟩)] w (Gives rb s w op st.place (qb5 s f gI gL (qe6 st l) l st1)):=by
 have H:=j4 h
 have HF:=j4 hf
 have HI:=j4 hI
 have HLK:=j4 hL
 have HRES:=j4 hres
 have hmf:∀(fn:Fn) (first cap:Array Value) (w:World),(Instr.makeFunc fn first cap).run Tryz.prog w=.ok (.func fn first cap) w:=fun _ _ _ _=>rfl
 obtain ⟨c0,c1,c2,c3,c4,c5,c6,fz⟩:=h.at'
 have hlt:=h.lt
 clear h hf hI hL hres
 have e16:(st1.tk.kind==16)=false:=by rw [hk];rfl
 have e17:(st1.tk.kind==17)=false:=by rw [hk];rfl
 have e18:(st1.tk.kind==18)=false:=by rw [hk];rfl
 have e19:(st1.tk.kind==19)=true:=by rw [hk];rfl
 have hT:∀bare,qb5 s f gI gL bare l st1=qc9 s f st1 l:=fun bare=>by unfold qb5;simp [hk]
 rw [hT]
 clear hT
 have HKK:=j4 hk
 clear hk
 cases hb0:(st.tk.kind==2)<;>cases hb1:(opA l==0)
 all_goals
  go_enter Tryz.func198,Tryz.ntmps198
  go_wp2_with (first|(go_at_call 241;refine (q9 HF _ st (q9 H) ho).mono ?_;rintro e w1 ⟨hk1,h1⟩;rw [q9 HRES] at h1;obtain ⟨v1,rfl,hn1,hr1,hf1,ho1,hp1⟩:=h1;obtain ⟨b,rfl,cb⟩:=hn1.opAt;obtain ⟨d0,d1,d2,d3,d4,d5,d6,dz⟩:=hr1;have hR1:=j4 ((q9 H).kept hk1 ⟨d0,d1,d2,d3,d4,d5,d6,dz⟩ hf1);have hn1:=j4 hn1;have hK1:=j4 hk1;clear hk1 d0 d3 d4 d5 d6)|(go_at_call 146;refine (qq1 rb s op f (q9 HF) st1 l _ _ (q9 hR1) ho1 (q9 hn1)).mono ?_;rintro e w' hg;have hg:=hg.from' (q9 hK1) (Nat.le_trans hp1 (Nat.le_of_lt (hf1.long (by rw [q9 HKK];decide))));rcases hg.cases with ⟨v,rfl,hg⟩|⟨en,pl,rfl,hg⟩;rotate_left;(exact ⟨rfl,hg⟩);have HG:=j4 hg;clear hg))
  go_ret
  exact q9 HG
theorem test_20 (rb:Nat) (s:ByteArray) (op:Nat) (f:St→Res) (gI gL:Ast→St→Res) (hf:qg4 241 rb s op f) (hI:qm1 268 rb s op 11 gI) (hL:qm1 269 rb s op 12 gL)
  (w:World) (st:St) (h:Ready rb s w st) (ho:st.op=op) (l:Ast) (st1:St) (hres:f st=.ok l st1) (hk:st1.tk.kind=20) :
  Calls Tryz.prog 198 #[.pointer (some ⟨rb,0,none⟩)] w (Gives rb s w op st.place (qb5 s f gI gL (qe6 st l) l st1)):=by
 have H:=j4 h
 have HF:=j4 hf
 have HI:=j4 hI
 have HLK:=j4 hL
 have HRES:=j4 hres
 have hmf:∀(fn:Fn) (first cap:Array Value) (w:World),(Instr.makeFunc fn first cap).run Tryz.prog w=.ok (.func fn first cap) w:=fun _ _ _ _=>rfl
 obtain ⟨c0,c1,c2,c3,c4,c5,c6,fz⟩:=h.at'
 have hlt:=h.lt
 clear h hf hI hL hres
 have e16:(st1.tk.kind==16)=false:=by rw [hk];rfl
 have e17:(st1.tk.kind==17)=false:=by rw [hk];rfl
 have e18:(st1.tk.kind==18)=false:=by rw [hk];rfl
 have e19:(st1.tk.kind==19)=false:=by rw [hk];rfl
 have e20:(st1.tk.kind==20)=true:=by rw [hk];rfl
 have hT:∀bare,qb5 s f gI gL bare l st1=qc9 s f st1 l:=fun bare=>by unfold qb5;simp [hk]
 rw [hT]
 clear hT
 have HKK:=j4 hk
 clear hk
 cases hb0:(st.tk.kind==2)<;>cases hb1:(opA l==0)
 all_goals
  go_enter Tryz.func198,Tryz.ntmps198
  go_wp2_with (first|(go_at_call 241;refine (q9 HF _ st (q9 H) ho).mono ?_;rintro e w1 ⟨hk1,h1⟩;rw [q9 HRES] at h1;obtain ⟨v1,rfl,hn1,hr1,hf1,ho1,hp1⟩:=h1;obtain ⟨b,rfl,cb⟩:=hn1.opAt;obtain ⟨d0,d1,d2,d3,d4,d5,d6,dz⟩:=hr1;have hR1:=j4 ((q9 H).kept hk1 ⟨d0,d1,d2,d3,d4,d5,d6,dz⟩ hf1);have hn1:=j4 hn1;have hK1:=j4 hk1;clear hk1 d0 d3 d4 d5 d6)|(go_at_call 146;refine (qq1 rb s op f (q9 HF) st1 l _ _ (q9 hR1) ho1 (q9 hn1)).mono ?_;rintro e w' hg;have hg:=hg.from' (q9 hK1) (Nat.le_trans hp1 (Nat.le_of_lt (hf1.long (by rw [q9 HKK];decide))));rcases hg.cases with ⟨v,rfl,hg⟩|⟨en,pl,rfl,hg⟩;rotate_left;(exact ⟨rfl,hg⟩);have HG:=j4 hg;clear hg))
  go_ret
  exact q9 HG
theorem test_21 (rb:Nat) (s:ByteArray) (op:Nat) (f:St→Res) (gI gL:Ast→St→Res) (hf:qg4 241 rb s op f) (hI:qm1 268 rb s op 11 gI) (hL:qm1 269 rb s op 12 gL)
  (w:World) (st:St) (h:Ready rb s w st) (ho:st.op=op) (l:Ast) (st1:St) (hres:f st=.ok l st1) (hk:st1.tk.kind=21) :
  Calls Tryz.prog 198 #[.pointer (some ⟨rb,0,none⟩)] w (Gives rb s w op st.place (qb5 s f gI gL (qe6 st l) l st1)):=by
 have H:=j4 h
 have HF:=j4 hf
 have HI:=j4 hI
 have HLK:=j4 hL
 have HRES:=j4 hres
 have hmf:∀(fn:Fn) (first cap:Array Value) (w:World),(Instr.makeFunc fn first cap).run Tryz.prog w=.ok (.func fn first cap) w:=fun _ _ _ _=>rfl
 obtain ⟨c0,c1,c2,c3,c4,c5,c6,fz⟩:=h.at'
 have hlt:=h.lt
 clear h hf hI hL hres
 have e16:(st1.tk.kind==16)=false:=by rw [hk];rfl
 have e17:(st1.tk.kind==17)=false:=by rw [hk];rfl
 have e18:(st1.tk.kind==18)=false:=by rw [hk];rfl
 have e19:(st1.tk.kind==19)=false:=by rw [hk];rfl
 have e20:(st1.tk.kind==20)=false:=by rw [hk];rfl
 have e21:(st1.tk.kind==21)=true:=by rw [hk];rfl
 have hT:∀bare,qb5 s f gI gL bare l st1=qc9 s f st1 l:=fun bare=>by unfold qb5;simp [hk]
 rw [hT]
 clear hT
 have HKK:=j4 hk
 clear hk
 cases hb0:(st.tk.kind==2)<;>cases hb1:(opA l==0)
 all_goals
  go_enter Tryz.func198,Tryz.ntmps198
  go_wp2_with (first|(go_at_call 241;refine (q9 HF _ st (q9 H) ho).mono ?_;rintro e w1 ⟨hk1,h1⟩;rw [q9 HRES] at h1;obtain ⟨v1,rfl,hn1,hr1,hf1,ho1,hp1⟩:=h1;obtain ⟨b,rfl,cb⟩:=hn1.opAt;obtain ⟨d0,d1,d2,d3,d4,d5,d6,dz⟩:=hr1;have hR1:=j4 ((q9 H).kept hk1 ⟨d0,d1,d2,d3,d4,d5,d6,dz⟩ hf1);have hn1:=j4 hn1;have hK1:=j4 hk1;clear hk1 d0 d3 d4 d5 d6)|(go_at_call 146;refine (qq1 rb s op f (q9 HF) st1 l _ _ (q9 hR1) ho1 (q9 hn1)).mono ?_;rintro e w' hg;have hg:=hg.from' (q9 hK1) (Nat.le_trans hp1 (Nat.le_of_lt (hf1.long (by rw [q9 HKK];decide))));rcases hg.cases with ⟨v,rfl,hg⟩|⟨en,pl,rfl,hg⟩;rotate_left;(exact ⟨rfl,hg⟩);have HG:=j4 hg;clear hg))
  go_ret
  exact q9 HG
theorem test_14 (rb:Nat) (s:ByteArray) (op:Nat) (f:St→Res) (gI gL:Ast→St→Res) (hf:qg4 241 rb s op f) (hI:qm1 268 rb s op 11 gI) (hL:qm1 269 rb s op 12 gL)
  (w:World) (st:St) (h:Ready rb s w st) (ho:st.op=op) (l:Ast) (st1:St) (hres:f st=.ok l st1) (hk:st1.tk.kind=14) :
  Calls Tryz.prog 198 #[.pointer (some ⟨rb,0,none⟩)] w (Gives rb s w op st.place (qb5 s f gI gL (qe6 st l) l st1)):=by
 have H:=j4 h
 have HF:=j4 hf
 have HI:=j4 hI
 have HLK:=j4 hL
 have HRES:=j4 hres
 have hmf:∀(fn:Fn) (first cap:Array Value) (w:World),(Instr.makeFunc fn first cap).run Tryz.prog w=.ok (.func fn first cap) w:=fun _ _ _ _=>rfl
 obtain ⟨c0,c1,c2,c3,c4,c5,c6,fz⟩:=h.at'
 have hlt:=h.lt
 clear h hf hI hL hres
 have e16:(st1.tk.kind==16)=false:=by rw [hk];rfl
 have e17:(st1.tk.kind==17)=false:=by rw [hk];rfl
 have e18:(st1.tk.kind==18)=false:=by rw [hk];rfl
 have e19:(st1.tk.kind==19)=false:=by rw [hk];rfl
 have e20:(st1.tk.kind==20)=false:=by rw [hk];rfl
 have e21:(st1.tk.kind==21)=false:=by rw [hk];rfl
 have e14:(st1.tk.kind==14)=true:=by rw [hk];rfl
 have hT:∀bare,qb5 s f gI gL bare l st1=if bare=true then qd2 s l st1 else .ok l st1:=fun bare=>by unfold qb5;simp [hk]
 rw [hT]
 clear hT
 have HKK:=j4 hk
 clear hk
 have hBB:qe6 st l=(st.tk.kind==2&&opA l==0):=rfl
 rw [hBB]
 clear hBB
 cases hb0:(st.tk.kind==2)<;>cases hb1:(opA l==0)
 all_goals simp only [Bool.and_self,Bool.and_true,Bool.and_false,Bool.false_eq_true,if_true,if_false]
 rotate_right
 ·go_enter Tryz.func198,Tryz.ntmps198
  go_wp2_with (first|(go_at_call 241;refine (q9 HF _ st (q9 H) ho).mono ?_;rintro e w1 ⟨hk1,h1⟩;rw [q9 HRES] at h1;obtain ⟨v1,rfl,hn1,hr1,hf1,ho1,hp1⟩:=h1;obtain ⟨b,rfl,cb⟩:=hn1.opAt;obtain ⟨d0,d1,d2,d3,d4,d5,d6,dz⟩:=hr1;have hR1:=j4 ((q9 H).kept hk1 ⟨d0,d1,d2,d3,d4,d5,d6,dz⟩ hf1);have hn1:=j4 hn1;have hK1:=j4 hk1;clear hk1 d0 d3 d4 d5 d6)|(go_at_call 242;refine (ji1 rb s op l _ _ st1 (q9 hR1) ho1 (q9 hn1) (q9 HKK)).mono ?_;rintro e w' hg;have hg:=hg.from' (q9 hK1) hp1;rcases hg.cases with ⟨v,rfl,hg⟩|⟨en,pl,rfl,hg⟩;rotate_left;(exact ⟨rfl,hg⟩);have HG:=j4 hg;clear hg))
  go_ret
  exact q9 HG
 all_goals
  go_enter Tryz.func198,Tryz.ntmps198
  go_wp2_with (go_at_call 241;refine (q9 HF _ st (q9 H) ho).mono ?_;rintro e w1 ⟨hk1,h1⟩;rw [q9 HRES] at h1;obtain ⟨v1,rfl,hn1,hr1,hf1,ho1,hp1⟩:=h1;obtain ⟨b,rfl,cb⟩:=hn1.opAt;obtain ⟨d0,d1,d2,d3,d4,d5,d6,dz⟩:=hr1;have hR1:=j4 ((q9 H).kept hk1 ⟨d0,d1,d2,d3,d4,d5,d6,dz⟩ hf1);have hn1:=j4 hn1;have hK1:=j4 hk1;clear hk1 d0 d3 d4 d5 d6)
  go_ret
  exact ⟨q9 hK1,_,rfl,q9 hn1,(q9 hR1).at',hf1,ho1,hp1⟩
theorem test_7 (rb:Nat) (s:ByteArray) (op:Nat) (f:St→Res) (gI gL:Ast→St→Res) (hf:qg4 241 rb s op f) (hI:qm1 268 rb s op 11 gI) (hL:qm1 269 rb s op 12 gL)
  (w:World) (st:St) (h:Ready rb s w st) (ho:st.op=op) (l:Ast) (st1:St) (hres:f st=.ok l st1) (hk:st1.tk.kind=7) :
  Calls Tryz.prog 198 #[.pointer (some ⟨rb,0,none⟩)] w (Gives rb s w op st.place (qb5 s f gI gL (qe6 st l) l st1)):=by
 have H:=j4 h
 have HF:=j4 hf
 have HI:=j4 hI
 have HLK:=j4 hL
 have HRES:=j4 hres
 have hmf:∀(fn:Fn) (first cap:Array Value) (w:World),(Instr.makeFunc fn first cap).run Tryz.prog w=.ok (.func fn first cap) w:=fun _ _ _ _=>rfl
 obtain ⟨c0,c1,c2,c3,c4,c5,c6,fz⟩:=h.at'
 have hlt:=h.lt
 clear h hf hI hL hres
 have e16:(st1.tk.kind==16)=false:=by rw [hk];rfl
 have e17:(st1.tk.kind==17)=false:=by rw [hk];rfl
 have e18:(st1.tk.kind==18)=false:=by rw [hk];rfl
 have e19:(st1.tk.kind==19)=false:=by rw [hk];rfl
 have e20:(st1.tk.kind==20)=false:=by rw [hk];rfl
 have e21:(st1.tk.kind==21)=false:=by rw [hk];rfl
 have e14:(st1.tk.kind==14)=false:=by rw [hk];rfl
 have e7:(st1.tk.kind==7)=true:=by rw [hk];rfl
 have hT:∀bare,qb5 s f gI gL bare l st1=(match qb1 s f gI gL bare l (j3 s st1) with|.ok t st'=>.ok (.un ⟨5,st1.place,0,[],[],[]⟩ t) st'|.err en pl=>.err en pl):=fun bare=>by unfold qb5;simp [hk]
 rw [hT]
 clear hT
 have HKK:=j4 hk
 clear hk
 have hBB:qe6 st l=(st.tk.kind==2&&opA l==0):=rfl
 rw [hBB]
 clear hBB
 cases hb0:(st.tk.kind==2)<;>cases hb1:(opA l==0)
 all_goals simp only [Bool.and_self,Bool.and_true,Bool.and_false]
 rotate_right
 ·skip
  cases hkr:qb1 s f gI gL true l (j3 s st1) with
  | err en pl=>
   have HKR:=j4 hkr
   clear hkr
   go_enter Tryz.func198,Tryz.ntmps198
   go_wp2_with (first|(go_at_call 241;refine (q9 HF _ st (q9 H) ho).mono ?_;rintro e w1 ⟨hk1,h1⟩;rw [q9 HRES] at h1;obtain ⟨v1,rfl,hn1,hr1,hf1,ho1,hp1⟩:=h1;obtain ⟨b,rfl,cb⟩:=hn1.opAt;obtain ⟨d0,d1,d2,d3,d4,d5,d6,dz⟩:=hr1;have hR1:=j4 ((q9 H).kept hk1 ⟨d0,d1,d2,d3,d4,d5,d6,dz⟩ hf1);have hn1:=j4 hn1;have hK1:=j4 hk1;clear hk1 d0 d3 d4 d5 d6)|(go_at_call 54;refine (qd6 rb s st1 _ (q9 hR1).size (q9 hR1).fine.after (q9 hR1).at' (q9 hR1).lt (q9 hR1).err).mono ?_;rintro e w2 ⟨rfl,hr2,hk2⟩;have hn2:=j4 ((q9 hn1).kept hk2);have hK2:=j4 ((q9 hK1).trans hk2);have hR2:=j4 ((q9 hR1).kept hk2 hr2 ((q9 hR1).fine.next));clear hr2 hk2)|(go_at_call 243;refine (qk5 rb s op f gI gL (q9 HF) (q9 HI) (q9 HLK) _ _ (j3 s st1) l _ (q9 hR2) ho1 (q9 hn2)).mono ?_;rintro e w3 ⟨hk3,h3⟩;rw [q9 HKR] at h3;subst h3;simp only [qb4]))
   exact ⟨rfl,(q9 hK2).trans hk3,rfl⟩
  | ok t st3=>
   have HKR:=j4 hkr
   clear hkr
   go_enter Tryz.func198,Tryz.ntmps198
   go_wp2_with (first|(go_at_call 241;refine (q9 HF _ st (q9 H) ho).mono ?_;rintro e w1 ⟨hk1,h1⟩;rw [q9 HRES] at h1;obtain ⟨v1,rfl,hn1,hr1,hf1,ho1,hp1⟩:=h1;obtain ⟨b,rfl,cb⟩:=hn1.opAt;obtain ⟨d0,d1,d2,d3,d4,d5,d6,dz⟩:=hr1;have hR1:=j4 ((q9 H).kept hk1 ⟨d0,d1,d2,d3,d4,d5,d6,dz⟩ hf1);have hn1:=j4 hn1;have hK1:=j4 hk1;clear hk1 d0 d3 d4 d5 d6)|(go_at_call 54;refine (qd6 rb s st1 _ (q9 hR1).size (q9 hR1).fine.after (q9 hR1).at' (q9 hR1).lt (q9 hR1).err).mono ?_;rintro e w2 ⟨rfl,hr2,hk2⟩;have hn2:=j4 ((q9 hn1).kept hk2);have hK2:=j4 ((q9 hK1).trans hk2);have hR2:=j4 ((q9 hR1).kept hk2 hr2 ((q9 hR1).fine.next));clear hr2 hk2)|(go_at_call 243;refine (qk5 rb s op f gI gL (q9 HF) (q9 HI) (q9 HLK) _ _ (j3 s st1) l _ (q9 hR2) ho1 (q9 hn2)).mono ?_;rintro e w3 ⟨hk3,h3⟩;rw [q9 HKR] at h3;obtain ⟨v3,rfl,hn3,hr3,hf3,ho3,hp3⟩:=h3;have hn3:=j4 hn3;have hr3:=j4 hr3;have hK3:=j4 ((q9 hK2).trans hk3);have hlt3:rb<w3.heap.size:=Nat.lt_of_lt_of_le (q9 hR2).lt hk3.size;clear hk3)|(go_at_call 200;refine (qv7 rb _ _ _ _ (q9 hn3) hlt3).mono ?_;rintro e w4 ⟨⟨v4,rfl,hn4⟩,hb4⟩;have hn4:=j4 hn4;have hb4:=j4 hb4))
   go_ret
   have hl1:=hf1.le (by rw [q9 HKK];decide)
   exact ⟨(q9 hK3).trans (Kept.of_below (q9 hb4)),_,rfl,q9 hn4,(q9 hr3).below (q9 hb4) hlt3,hf3,ho3,by omega⟩
 all_goals
  cases hkr:qb1 s f gI gL false l (j3 s st1) with
  | err en pl=>
   have HKR:=j4 hkr
   clear hkr
   go_enter Tryz.func198,Tryz.ntmps198
   go_wp2_with (first|(go_at_call 241;refine (q9 HF _ st (q9 H) ho).mono ?_;rintro e w1 ⟨hk1,h1⟩;rw [q9 HRES] at h1;obtain ⟨v1,rfl,hn1,hr1,hf1,ho1,hp1⟩:=h1;obtain ⟨b,rfl,cb⟩:=hn1.opAt;obtain ⟨d0,d1,d2,d3,d4,d5,d6,dz⟩:=hr1;have hR1:=j4 ((q9 H).kept hk1 ⟨d0,d1,d2,d3,d4,d5,d6,dz⟩ hf1);have hn1:=j4 hn1;have hK1:=j4 hk1;clear hk1 d0 d3 d4 d5 d6)|(go_at_call 54;refine (qd6 rb s st1 _ (q9 hR1).size (q9 hR1).fine.after (q9 hR1).at' (q9 hR1).lt (q9 hR1).err).mono ?_;rintro e w2 ⟨rfl,hr2,hk2⟩;have hn2:=j4 ((q9 hn1).kept hk2);have hK2:=j4 ((q9 hK1).trans hk2);have hR2:=j4 ((q9 hR1).kept hk2 hr2 ((q9 hR1).fine.next));clear hr2 hk2)|(go_at_call 243;refine (qk5 rb s op f gI gL (q9 HF) (q9 HI) (q9 HLK) _ _ (j3 s st1) l _ (q9 hR2) ho1 (q9 hn2)).mono ?_;rintro e w3 ⟨hk3,h3⟩;rw [q9 HKR] at h3;subst h3;simp only [qb4]))
   exact ⟨rfl,(q9 hK2).trans hk3,rfl⟩
  | ok t st3=>
   have HKR:=j4 hkr
   clear hkr
   go_enter Tryz.func198,Tryz.ntmps198
   go_wp2_with (first|(go_at_call 241;refine (q9 HF _ st (q9 H) ho).mono ?_;rintro e w1 ⟨hk1,h1⟩;rw [q9 HRES] at h1;obtain ⟨v1,rfl,hn1,hr1,hf1,ho1,hp1⟩:=h1;obtain ⟨b,rfl,cb⟩:=hn1.opAt;obtain ⟨d0,d1,d2,d3,d4,d5,d6,dz⟩:=hr1;have hR1:=j4 ((q9 H).kept hk1 ⟨d0,d1,d2,d3,d4,d5,d6,dz⟩ hf1);have hn1:=j4 hn1;have hK1:=j4 hk1;clear hk1 d0 d3 d4 d5 d6)|(go_at_call 54;refine (qd6 rb s st1 _ (q9 hR1).size (q9 hR1).fine.after (q9 hR1).at' (q9 hR1).lt (q9 hR1).err).mono ?_;rintro e w2 ⟨rfl,hr2,hk2⟩;have hn2:=j4 ((q9 hn1).kept hk2);have hK2:=j4 ((q9 hK1).trans hk2);have hR2:=j4 ((q9 hR1).kept hk2 hr2 ((q9 hR1).fine.next));clear hr2 hk2)|(go_at_call 243;refine (qk5 rb s op f gI gL (q9 HF) (q9 HI) (q9 HLK) _ _ (j3 s st1) l _ (q9 hR2) ho1 (q9 hn2)).mono ?_;rintro e w3 ⟨hk3,h3⟩;rw [q9 HKR] at h3;obtain ⟨v3,rfl,hn3,hr3,hf3,ho3,hp3⟩:=h3;have hn3:=j4 hn3;have hr3:=j4 hr3;have hK3:=j4 ((q9 hK2).trans hk3);have hlt3:rb<w3.heap.size:=Nat.lt_of_lt_of_le (q9 hR2).lt hk3.size;clear hk3)|(go_at_call 200;refine (qv7 rb _ _ _ _ (q9 hn3) hlt3).mono ?_;rintro e w4 ⟨⟨v4,rfl,hn4⟩,hb4⟩;have hn4:=j4 hn4;have hb4:=j4 hb4))
   go_ret
   have hl1:=hf1.le (by rw [q9 HKK];decide)
   exact ⟨(q9 hK3).trans (Kept.of_below (q9 hb4)),_,rfl,q9 hn4,(q9 hr3).below (q9 hb4) hlt3,hf3,ho3,by omega⟩
theorem test_10 (rb:Nat) (s:ByteArray) (op:Nat) (f:St→Res) (gI gL:Ast→St→Res) (hf:qg4 241 rb s op f) (hI:qm1 268 rb s op 11 gI) (hL:qm1 269 rb s op 12 gL)
  (w:World) (st:St) (h:Ready rb s w st) (ho:st.op=op) (l:Ast) (st1:St) (hres:f st=.ok l st1) (hk:st1.tk.kind=10) :
  Calls Tryz.prog 198 #[.pointer (some ⟨rb,0,none⟩)] w (Gives rb s w op st.place (qb5 s f gI gL (qe6 st l) l st1)):=by
 have H:=j4 h
 have HF:=j4 hf
 have HI:=j4 hI
 have HLK:=j4 hL
 have HRES:=j4 hres
 have hmf:∀(fn:Fn) (first cap:Array Value) (w:World),(Instr.makeFunc fn first cap).run Tryz.prog w=.ok (.func fn first cap) w:=fun _ _ _ _=>rfl
 obtain ⟨c0,c1,c2,c3,c4,c5,c6,fz⟩:=h.at'
 have hlt:=h.lt
 clear h hf hI hL hres
 have e16:(st1.tk.kind==16)=false:=by rw [hk];rfl
 have e17:(st1.tk.kind==17)=false:=by rw [hk];rfl
 have e18:(st1.tk.kind==18)=false:=by rw [hk];rfl
 have e19:(st1.tk.kind==19)=false:=by rw [hk];rfl
 have e20:(st1.tk.kind==20)=false:=by rw [hk];rfl
 have e21:(st1.tk.kind==21)=false:=by rw [hk];rfl
 have e14:(st1.tk.kind==14)=false:=by rw [hk];rfl
 have e7:(st1.tk.kind==7)=false:=by rw [hk];rfl
 have e10:(st1.tk.kind==10)=true:=by rw [hk];rfl
 have hT:∀bare,qb5 s f gI gL bare l st1=qb1 s f gI gL bare l st1:=fun bare=>by unfold qb5;simp [hk]
 rw [hT]
 clear hT
 have HKK:=j4 hk
 clear hk
 have hBB:qe6 st l=(st.tk.kind==2&&opA l==0):=rfl
 rw [hBB]
 clear hBB
 cases hb0:(st.tk.kind==2)<;>cases hb1:(opA l==0)
 all_goals simp only [Bool.and_self,Bool.and_true,Bool.and_false]
 all_goals
  go_enter Tryz.func198,Tryz.ntmps198
  go_wp2_with (first|(go_at_call 241;refine (q9 HF _ st (q9 H) ho).mono ?_;rintro e w1 ⟨hk1,h1⟩;rw [q9 HRES] at h1;obtain ⟨v1,rfl,hn1,hr1,hf1,ho1,hp1⟩:=h1;obtain ⟨b,rfl,cb⟩:=hn1.opAt;obtain ⟨d0,d1,d2,d3,d4,d5,d6,dz⟩:=hr1;have hR1:=j4 ((q9 H).kept hk1 ⟨d0,d1,d2,d3,d4,d5,d6,dz⟩ hf1);have hn1:=j4 hn1;have hK1:=j4 hk1;clear hk1 d0 d3 d4 d5 d6)|(go_at_call 243;refine (qk5 rb s op f gI gL (q9 HF) (q9 HI) (q9 HLK) _ _ st1 l _ (q9 hR1) ho1 (q9 hn1)).mono ?_;rintro e w' hg;have hg:=hg.from' (q9 hK1) hp1;rcases hg.cases with ⟨v,rfl,hg⟩|⟨en,pl,rfl,hg⟩;rotate_left;(exact ⟨rfl,hg⟩);have HG:=j4 hg;clear hg))
  go_ret
  exact q9 HG
theorem test_11 (rb:Nat) (s:ByteArray) (op:Nat) (f:St→Res) (gI gL:Ast→St→Res) (hf:qg4 241 rb s op f) (hI:qm1 268 rb s op 11 gI) (hL:qm1 269 rb s op 12 gL)
  (w:World) (st:St) (h:Ready rb s w st) (ho:st.op=op) (l:Ast) (st1:St) (hres:f st=.ok l st1) (hk:st1.tk.kind=11) :
  Calls Tryz.prog 198 #[.pointer (some ⟨rb,0,none⟩)] w (Gives rb s w op st.place (qb5 s f gI gL (qe6 st l) l st1)):=by
 have H:=j4 h
 have HF:=j4 hf
 have HI:=j4 hI
 have HLK:=j4 hL
 have HRES:=j4 hres
 have hmf:∀(fn:Fn) (first cap:Array Value) (w:World),(Instr.makeFunc fn first cap).run Tryz.prog w=.ok (.func fn first cap) w:=fun _ _ _ _=>rfl
 obtain ⟨c0,c1,c2,c3,c4,c5,c6,fz⟩:=h.at'
 have hlt:=h.lt
 clear h hf hI hL hres
 have e16:(st1.tk.kind==16)=false:=by rw [hk];rfl
 have e17:(st1.tk.kind==17)=false:=by rw [hk];rfl
 have e18:(st1.tk.kind==18)=false:=by rw [hk];rfl
 have e19:(st1.tk.kind==19)=false:=by rw [hk];rfl
 have e20:(st1.tk.kind==20)=false:=by rw [hk];rfl
 have e21:(st1.tk.kind==21)=false:=by rw [hk];rfl
 have e14:(st1.tk.kind==14)=false:=by rw [hk];rfl
 have e7:(st1.tk.kind==7)=false:=by rw [hk];rfl
 have e10:(st1.tk.kind==10)=false:=by rw [hk];rfl
 have e11:(st1.tk.kind==11)=true:=by rw [hk];rfl
 have hT:∀bare,qb5 s f gI gL bare l st1=qb1 s f gI gL bare l st1:=fun bare=>by unfold qb5;simp [hk]
 rw [hT]
 clear hT
 have HKK:=j4 hk
 clear hk
 have hBB:qe6 st l=(st.tk.kind==2&&opA l==0):=rfl
 rw [hBB]
 clear hBB
 cases hb0:(st.tk.kind==2)<;>cases hb1:(opA l==0)
 all_goals simp only [Bool.and_self,Bool.and_true,Bool.and_false]
 all_goals
  go_enter Tryz.func198,Tryz.ntmps198
  go_wp2_with (first|(go_at_call 241;refine (q9 HF _ st (q9 H) ho).mono ?_;rintro e w1 ⟨hk1,h1⟩;rw [q9 HRES] at h1;obtain ⟨v1,rfl,hn1,hr1,hf1,ho1,hp1⟩:=h1;obtain ⟨b,rfl,cb⟩:=hn1.opAt;obtain ⟨d0,d1,d2,d3,d4,d5,d6,dz⟩:=hr1;have hR1:=j4 ((q9 H).kept hk1 ⟨d0,d1,d2,d3,d4,d5,d6,dz⟩ hf1);have hn1:=j4 hn1;have hK1:=j4 hk1;clear hk1 d0 d3 d4 d5 d6)|(go_at_call 243;refine (qk5 rb s op f gI gL (q9 HF) (q9 HI) (q9 HLK) _ _ st1 l _ (q9 hR1) ho1 (q9 hn1)).mono ?_;rintro e w' hg;have hg:=hg.from' (q9 hK1) hp1;rcases hg.cases with ⟨v,rfl,hg⟩|⟨en,pl,rfl,hg⟩;rotate_left;(exact ⟨rfl,hg⟩);have HG:=j4 hg;clear hg))
  go_ret
  exact q9 HG
theorem test_12 (rb:Nat) (s:ByteArray) (op:Nat) (f:St→Res) (gI gL:Ast→St→Res) (hf:qg4 241 rb s op f) (hI:qm1 268 rb s op 11 gI) (hL:qm1 269 rb s op 12 gL)
  (w:World) (st:St) (h:Ready rb s w st) (ho:st.op=op) (l:Ast) (st1:St) (hres:f st=.ok l st1) (hk:st1.tk.kind=12) :
  Calls Tryz.prog 198 #[.pointer (some ⟨rb,0,none⟩)] w (Gives rb s w op st.place (qb5 s f gI gL (qe6 st l) l st1)):=by
 have H:=j4 h
 have HF:=j4 hf
 have HI:=j4 hI
 have HLK:=j4 hL
 have HRES:=j4 hres
 have hmf:∀(fn:Fn) (first cap:Array Value) (w:World),(Instr.makeFunc fn first cap).run Tryz.prog w=.ok (.func fn first cap) w:=fun _ _ _ _=>rfl
 obtain ⟨c0,c1,c2,c3,c4,c5,c6,fz⟩:=h.at'
 have hlt:=h.lt
 clear h hf hI hL hres
 have e16:(st1.tk.kind==16)=false:=by rw [hk];rfl
 have e17:(st1.tk.kind==17)=false:=by rw [hk];rfl
 have e18:(st1.tk.kind==18)=false:=by rw [hk];rfl
 have e19:(st1.tk.kind==19)=false:=by rw [hk];rfl
 have e20:(st1.tk.kind==20)=false:=by rw [hk];rfl
 have e21:(st1.tk.kind==21)=false:=by rw [hk];rfl
 have e14:(st1.tk.kind==14)=false:=by rw [hk];rfl
 have e7:(st1.tk.kind==7)=false:=by rw [hk];rfl
 have e10:(st1.tk.kind==10)=false:=by rw [hk];rfl
 have e11:(st1.tk.kind==11)=false:=by rw [hk];rfl
 have e12:(st1.tk.kind==12)=true:=by rw [hk];rfl
 have hT:∀bare,qb5 s f gI gL bare l st1=qb1 s f gI gL bare l st1:=fun bare=>by unfold qb5;simp [hk]
 rw [hT]
 clear hT
 have HKK:=j4 hk
 clear hk
 have hBB:qe6 st l=(st.tk.kind==2&&opA l==0):=rfl
 rw [hBB]
 clear hBB
 cases hb0:(st.tk.kind==2)<;>cases hb1:(opA l==0)
 all_goals simp only [Bool.and_self,Bool.and_true,Bool.and_false]
 all_goals
  go_enter Tryz.func198,Tryz.ntmps198
  go_wp2_with (first|(go_at_call 241;refine (q9 HF _ st (q9 H) ho).mono ?_;rintro e w1 ⟨hk1,h1⟩;rw [q9 HRES] at h1;obtain ⟨v1,rfl,hn1,hr1,hf1,ho1,hp1⟩:=h1;obtain ⟨b,rfl,cb⟩:=hn1.opAt;obtain ⟨d0,d1,d2,d3,d4,d5,d6,dz⟩:=hr1;have hR1:=j4 ((q9 H).kept hk1 ⟨d0,d1,d2,d3,d4,d5,d6,dz⟩ hf1);have hn1:=j4 hn1;have hK1:=j4 hk1;clear hk1 d0 d3 d4 d5 d6)|(go_at_call 243;refine (qk5 rb s op f gI gL (q9 HF) (q9 HI) (q9 HLK) _ _ st1 l _ (q9 hR1) ho1 (q9 hn1)).mono ?_;rintro e w' hg;have hg:=hg.from' (q9 hK1) hp1;rcases hg.cases with ⟨v,rfl,hg⟩|⟨en,pl,rfl,hg⟩;rotate_left;(exact ⟨rfl,hg⟩);have HG:=j4 hg;clear hg))
  go_ret
  exact q9 HG
end
section
theorem jn5 (rb:Nat) (s:ByteArray) (op:Nat) (f:St→Res) (gI gL:Ast→St→Res) (hf:qg4 241 rb s op f) (hI:qm1 268 rb s op 11 gI) (hL:qm1 269 rb s op 12 gL) :
  qg4 198 rb s op (qg1 s f gI gL):=by
 intro w st h ho
 cases hres:f st with
 | err en pl=>
  have hT:qg1 s f gI gL st=.err en pl:=by unfold qg1;rw [hres]
  rw [hT]
  obtain ⟨c0,c1,c2,c3,c4,c5,c6,fz⟩:=h.at'
  have H:=j4 h
  have HF:=j4 hf
  have HRES:=j4 hres
  clear h hf hI hL hres hT
  cases hb0:(st.tk.kind==2)
  all_goals
   go_enter Tryz.func198,Tryz.ntmps198
   go_wp2_with (go_at_call 241;refine (q9 HF _ st (q9 H) ho).mono ?_;rintro e w1 ⟨hk1,h1⟩;rw [q9 HRES] at h1;subst h1;simp only [qb4])
   exact ⟨rfl,hk1,rfl⟩
 | ok l st1=>
  have hT:qg1 s f gI gL st=qb5 s f gI gL (qe6 st l) l st1:=by unfold qg1;rw [hres]
  rw [hT]
  by_cases h16:st1.tk.kind=16
  ·exact test_16 rb s op f gI gL hf hI hL w st h ho l st1 hres h16
  by_cases h17:st1.tk.kind=17
  ·exact test_17 rb s op f gI gL hf hI hL w st h ho l st1 hres h17
  by_cases h18:st1.tk.kind=18
  ·exact test_18 rb s op f gI gL hf hI hL w st h ho l st1 hres h18
  by_cases h19:st1.tk.kind=19
  ·exact test_19 rb s op f gI gL hf hI hL w st h ho l st1 hres h19
  by_cases h20:st1.tk.kind=20
  ·exact test_20 rb s op f gI gL hf hI hL w st h ho l st1 hres h20
  by_cases h21:st1.tk.kind=21
  ·exact test_21 rb s op f gI gL hf hI hL w st h ho l st1 hres h21
  by_cases h14:st1.tk.kind=14
  ·exact test_14 rb s op f gI gL hf hI hL w st h ho l st1 hres h14
  by_cases h7:st1.tk.kind=7
  ·exact test_7 rb s op f gI gL hf hI hL w st h ho l st1 hres h7
  by_cases h10:st1.tk.kind=10
  ·exact test_10 rb s op f gI gL hf hI hL w st h ho l st1 hres h10
  by_cases h11:st1.tk.kind=11
  ·exact test_11 rb s op f gI gL hf hI hL w st h ho l st1 hres h11
  by_cases h12:st1.tk.kind=12
  ·exact test_12 rb s op f gI gL hf hI hL w st h ho l st1 hres h12
  exact test_none rb s op f gI gL hf hI hL w st h ho l st1 hres h16 h17 h18 h19 h20 h21 h14 h7 h10 h11 h12
end
section
structure L3 where
 S:St→Res
 D:St→Res
 E:St→Res
def prodOf (s:ByteArray) (S:St→Res):St→Res:=qe4 s S [24,25]
def sumOf (s:ByteArray) (S:St→Res):St→Res:=qe4 s (prodOf s S) [22,23]
def testOf (s:ByteArray) (S:St→Res):St→Res:=qg1 s (sumOf s S) (qh5 s) (qb6 s)
def eitherOf (s:ByteArray) (D:St→Res):St→Res:=qe4 s (qe4 s D [5]) [6]
def up3 (s:ByteArray) (L:L3):L3:=⟨qc6 s L.S L.E,qe1 s L.D (testOf s (qc6 s L.S L.E)),eitherOf s (qe1 s L.D (testOf s (qc6 s L.S L.E)))⟩
def lvl (s:ByteArray):Nat→L3
 | 0=>up3 s ⟨fun _=>.err 0 0,fun _=>.err 0 0,fun _=>.err 0 0⟩
 | d+1=>up3 s (lvl s d)
structure Reads3 (rb:Nat) (s:ByteArray) (op:Nat) (L:L3):Prop where
 S:qg4 301 rb s op L.S
 D:qg4 147 rb s op L.D
 E:qg4 55 rb s op L.E
theorem vw7 (rb:Nat) (s:ByteArray) (hs:s.size≤200) (op:Nat) (hop:op≤12) (L:L3) (h:op<12→Reads3 rb s (op+1) L):Reads3 rb s op (up3 s L):=by
 have hS:qg4 301 rb s op (qc6 s L.S L.E):=vw0 rb s op hop L.S L.E (fun k=>(h k).S) (fun k=>(h k).E)
 have hP:=vn9 rb s op _ hS
 have hU:=sum_reads rb s op _ hP
 have hT:=jn5 rb s op _ _ _ hU (in_reads rb s op hs) (ji2 rb s op hs)
 have hD:=vs1 rb s op hop L.D _ (fun k=>(h k).D) hT
 exact ⟨hS,hD,vs2 rb s op _ (jg5 rb s op _ hD)⟩
theorem lvl_reads (rb:Nat) (s:ByteArray) (hs:s.size≤200):∀(d op:Nat),op+d=12→Reads3 rb s op (lvl s d):=by
 intro d
 induction d with
 | zero=>intro op h;exact vw7 rb s hs op (by omega) _ (fun k=>by omega)
 | succ d ih=>intro op h;exact vw7 rb s hs op (by omega) _ (fun _=>ih (op+1) (by omega))
def Good (f:St→Res):Prop:=∀st t st',f st=.ok t st'→WfA t
def GoodT (g:Ast→St→Res):Prop:=∀l st t st',WfA l→g l st=.ok t st'→WfA t
theorem Good.join {s:ByteArray} {f:St→Res} (h:Good f):∀st l t st',WfA l→qc9 s f st l=.ok t st'→WfA t:=by
 intro st l t st' hl he
 unfold qc9 at he
 split at he
 ·rename_i r st2 hr;injection he with h1 _;subst h1;exact ⟨hl,h _ _ _ hr⟩
 ·cases he
theorem Good.loop {s:ByteArray} {f:St→Res} {ks:List Int} (h:Good f):∀n l st t st',WfA l→qb7 s f ks n l st=.ok t st'→WfA t:=by
 intro n
 induction n with
 | zero=>intro l st t st' hl he;rw [qb7] at he;injection he with h1 _;subst h1;exact hl
 | succ n ih=>
  intro l st t st' hl he
  rw [qb7] at he
  split at he
  ·split at he
   ·rename_i hj;exact ih _ _ _ _ (h.join _ _ _ _ hl hj) he
   ·cases he
  ·injection he with h1 _;subst h1;exact hl
theorem Good.row {s:ByteArray} {f:St→Res} {ks:List Int} (h:Good f):Good (qe4 s f ks):=by
 intro st t st' he
 unfold qe4 at he
 split at he
 ·rename_i hr;exact h.loop _ _ _ _ _ (h _ _ _ hr) he
 ·cases he
theorem Good.sign {s:ByteArray} {f:St→Res} (h:Good f) (o:Int) (ho:¬o=8∧¬o=9):Good (qd7 s f o):=by
 intro st t st' he
 unfold qd7 at he
 split at he
 ·cases he
 ·split at he
  ·rename_i hr;injection he with h1 _;subst h1;exact ⟨ho,h _ _ _ hr⟩
  ·cases he
theorem Good.group {s:ByteArray} {f:St→Res} (h:Good f):Good (qd5 s f):=by
 intro st t st' he
 unfold qd5 at he
 split at he
 ·cases he
 ·split at he
  ·rename_i hr;split at he
   ·injection he with h1 _;subst h1;exact h _ _ _ hr
   ·cases he
  ·cases he
theorem Good.signed {s:ByteArray} {fS fE:St→Res} (hS:Good fS) (hE:Good fE):Good (qc6 s fS fE):=by
 intro st t st' he
 unfold qc6 at he
 split at he
 ·exact hS.sign 14 (by decide) _ _ _ he
 split at he
 ·exact hS.sign 15 (by decide) _ _ _ he
 split at he
 ·exact hE.group _ _ _ he
 split at he
 ·injection he with h1 _;subst h1;exact ⟨by simp,by simp⟩
 split at he
 ·injection he with h1 _;subst h1;exact ⟨by simp,by simp⟩
 split at he
 ·injection he with h1 _;subst h1;exact ⟨by simp,by simp⟩
 split at he
 ·injection he with h1 _;subst h1;exact ⟨by simp,by simp⟩
 split at he
 ·injection he with h1 _;subst h1;exact ⟨by simp,by simp⟩
 ·cases he
theorem vz7 {s:ByteArray}:GoodT (qd2 s):=by
 intro l st t st' hl he
 unfold qd2 at he
 split at he
 ·split at he
  ·injection he with h1 _;subst h1;exact ⟨⟨by simp,by simp⟩,⟨by simp,by simp⟩,hl⟩
  ·cases he
 ·split at he
  ·injection he with h1 _;subst h1;exact ⟨⟨by simp,by simp⟩,hl⟩
  ·cases he
theorem vz6 {s:ByteArray} {l:Ast} {pl:Nat} (hl:WfA l):∀n ts st t st',qf5 s l pl n ts st=.ok t st'→WfA t:=by
 intro n
 induction n with
 | zero=>intro ts st t st' he;rw [qf5] at he;cases he
 | succ n ih=>
  intro ts st t st' he
  rw [qf5] at he
  split at he
  ·split at he
   ·exact ih _ _ _ _ he
   ·cases he
  ·split at he
   ·injection he with h1 _;subst h1;exact ⟨⟨by simp,by simp⟩,hl⟩
   ·cases he
theorem good_in {s:ByteArray}:GoodT (qh5 s):=by
 intro l st t st' hl he
 unfold qh5 at he
 split at he
 ·split at he
  ·exact vz6 hl _ _ _ _ _ he
  ·cases he
 ·cases he
theorem good_like {s:ByteArray}:GoodT (qb6 s):=by
 intro l st t st' hl he
 unfold qb6 at he
 repeat' split at he
 all_goals first|(injection he with h1 _;subst h1;exact ⟨⟨by simp,by simp⟩,hl⟩)|cases he
theorem Good.between {s:ByteArray} {f:St→Res} (h:Good f):GoodT (qa8 s f):=by
 intro l st t st' hl he
 unfold qa8 at he
 split at he
 ·split at he
  ·rename_i h1;split at he
   ·split at he
    ·rename_i h2;injection he with h3 _;subst h3;exact ⟨⟨by simp,by simp⟩,hl,h _ _ _ h1,h _ _ _ h2⟩
    ·cases he
   ·cases he
  ·cases he
 ·cases he
theorem Good.keyword {s:ByteArray} {f:St→Res} (h:Good f) (bare:Bool):GoodT (qb1 s f (qh5 s) (qb6 s) bare):=by
 intro l st t st' hl he
 unfold qb1 at he
 split at he
 ·exact good_in _ _ _ _ hl he
 split at he
 ·exact good_like _ _ _ _ hl he
 ·exact h.between _ _ _ _ hl he
theorem Good.test {s:ByteArray} {f:St→Res} (h:Good f):Good (qg1 s f (qh5 s) (qb6 s)):=by
 intro st t st' he
 unfold qg1 at he
 split at he
 ·rename_i hr
  have hl:=h _ _ _ hr
  unfold qb5 at he
  split at he
  ·exact h.join _ _ _ _ hl he
  split at he
  ·split at he
   ·exact vz7 _ _ _ _ hl he
   ·injection he with h1 _;subst h1;exact hl
  split at he
  ·split at he
   ·rename_i hk;injection he with h1 _;subst h1;exact ⟨⟨by simp,by simp⟩,h.keyword _ _ _ _ _ hl hk⟩
   ·cases he
  split at he
  ·exact h.keyword _ _ _ _ _ hl he
  ·injection he with h1 _;subst h1;exact hl
 ·cases he
theorem Good.denied {s:ByteArray} {fD fT:St→Res} (hD:Good fD) (hT:Good fT):Good (qe1 s fD fT):=by
 intro st t st' he
 unfold qe1 at he
 split at he
 ·exact hD.sign 5 (by decide) _ _ _ he
 ·exact hT _ _ _ he
structure Good3 (L:L3):Prop where
 S:Good L.S
 D:Good L.D
 E:Good L.E
theorem jf8 {s:ByteArray} {L:L3} (h:Good3 L):Good3 (up3 s L):=by
 have hS:=Good.signed (s:=s) h.S h.E
 have hD:=Good.denied (s:=s) h.D (Good.test (s:=s) ((hS.row (s:=s) (ks:=[24,25])).row (s:=s) (ks:=[22,23])))
 exact ⟨hS,hD,(hD.row (s:=s) (ks:=[5])).row (s:=s) (ks:=[6])⟩
theorem lvl_good (s:ByteArray):∀d,Good3 (lvl s d):=by
 intro d
 induction d with
 | zero=>exact jf8 ⟨(fun _ _ _ h=>by cases h),(fun _ _ _ h=>by cases h),(fun _ _ _ h=>by cases h)⟩
 | succ d ih=>exact jf8 ih
end
end Go.Proofs.YtfkcaldjphakpaaGreatDoor
